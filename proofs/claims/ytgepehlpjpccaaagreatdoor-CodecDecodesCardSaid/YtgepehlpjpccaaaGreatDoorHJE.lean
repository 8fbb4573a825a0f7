/- Contracts. -/
import Derived.Test.YtgepehlpjpccaaaGreatDoorGKD
set_option maxHeartbeats 8000000
set_option maxRecDepth 100000
namespace Go.Proofs.YtgepehlpjpccaaaGreatDoor
section
open Go.RowKit
open Go.Lib
def ydm (w:World) (L:Lb) (e:Ending) (w':World):Prop:=∃ v,e=.returned v∧Be w w'∧((v=.slice none 0 0∧L=[])∨∃ ad c,v=.slice (some ad) L.length c∧∀ j u,(zN L)[j]?=some u→w'.cell? (ad.add j)=some u)
theorem ys8 (w:World) (c:UInt8):(w.alloc (.cells #[.int .u8 (c.toNat:Int)] 5)).ownsRow w.heap.size 5 1 (.slice (some ⟨w.heap.size,0,none⟩) 1 1) 1 [.int .u8 (c.toNat:Int)] :=
 ⟨rfl,.inr ⟨w.heap.size,1,#[.int .u8 (c.toNat:Int)],rfl,Nat.le_refl _,heap_alloc_new w _,Nat.le_refl _,by unfold maxLen;omega,rfl,rfl⟩⟩
theorem yg9 {w w':World} {v:Value} {L:Lb} (h:w'.ownsRow w.heap.size 5 1 v L.length (zN L)) (hb:Be w w') (h0:0<L.length):ydm w L (.returned v) w':=by
 obtain ⟨p,c,rfl,hB,-⟩:=zA h
 obtain ⟨ad,rfl⟩:=hB.some h0
 exact ⟨_,rfl,hb,.inr ⟨ad,c,rfl,hB.news bR ad rfl⟩⟩
theorem yu6 {w w':World} {L:Lb} {e:Ending} (h0:0<L.length) (h:App w.heap.size w (.slice none 0 0) L e w'):ydm w L e w':=by
 obtain ⟨v',rfl,hg⟩:=h
 exact yg9 hg.own (hg.below nl (fun k e=>by cases e)) h0
theorem yqO (x:Lb) (w:World) (hx:x.length≤82) :
  Calls Tryz.prog 103 #[.int .i64 5,.string ⟨x.toArray⟩] w (ydm w (jD 5 x)):=by
 obtain ⟨i0,hi,hz0,hz1,hz2⟩:=info_parts uF
 have e5:jD 5 x=if x=[] then [] else UInt8.ofNat x.length::x:=by unfold jD;rw [if_pos rfl]
 rw [e5]
 by_cases he:x=[]
 ·subst he
  have HR:Hid (ydm w [] (.returned (.slice none 0 0)) w):=h_ ⟨_,rfl,Below.refl _ _,.inl ⟨rfl,rfl⟩⟩
  rw [if_pos rfl]
  go_in
  go_wp2
  go_ret
  exact HR.out
 rw [if_neg he]
 obtain ⟨m,HM⟩:=ez (x.length)
 have hne:x.isEmpty=false:=by
  cases x with
  | nil=>exact absurd rfl he
  | cons=>rfl
 have hm82:(m:Int)≤82:=by rw [← HM.out];omega
 have hsz:(⟨x.toArray⟩:ByteArray).size=m:=by rw [← ByteArray.size_data];simpa using HM.out
 obtain ⟨c,HC⟩:=ey (UInt8.ofNat m)
 have HCM:Hid (((c.toNat:Nat):Int)=(m:Int)):=h_ (by rw [HC.out,UInt8.toNat_ofNat'];omega)
 have zH:Hid (UInt8.ofNat x.length::x=[c]++x):=h_ (by rw [HM.out,← HC.out];rfl)
 rw [zH.out]
 have HO:=h_ (ys8 w c)
 have yY:Hid (Be w (w.alloc (.cells #[.int .u8 (c.toNat:Int)] 5))):=h_ ((Below.refl _ w).alloc nl _)
 have yeB:Hid (1+(⟨x.toArray⟩:ByteArray).size≤maxLen∧1+(⟨x.toArray⟩:ByteArray).size≤140737488355328∧w.heap.size≤(w.alloc (.cells #[.int .u8 (c.toNat:Int)] 5)).heap.size):=h_ (by
  have h4:=yY.out.size
  have h5:=HM.out
  rw [hsz]
  unfold maxLen;omega)
 rw [HCM.out] at HO yY yeB
 clear hx
 go_in
 go_wp2_with (at_builtin;refine wpList_append_own_string _ rfl (.tmp 13) (.tmp 14) 39 9 rfl w.heap.size 5 i0 Tryz.underlying39 Tryz.underlying9 hi hz0 hz1 hz2 _ _ _ rfl HO.out ⟨x.toArray⟩ rfl yeB.out.1 yeB.out.2.1 yeB.out.2.2 ?_)
 intro v6 w6 yba ya1 _
 have HR:Hid (ydm w ([c]++x) (.returned v6) w6):=h_ (by
  refine yg9 ?_ (yY.out.grown ya1 yY.out.size (fun _ e=>by cases e;exact Nat.le_refl _)) (by simp)
  rw [yni,← HCM.out] at yba
  have e:1+m=([c]++x).length:=by simp only [List.length_append,HM.out,List.length_singleton]
  have e2:zN ([c]++x)=[Value.int .u8 (c.toNat:Int)]++zN x:=yhY [c] x
  rw [e2,← e]
  exact yba)
 clear yba ya1
 go_wp2
 go_ret
 exact HR.out
theorem yqP (k:Int) (x:Lb) (w:World) (hf:zZ k x=true) (h1:1≤k) (h4:k≤4) :
  Calls Tryz.prog 103 #[.int .i64 k,.string ⟨x.toArray⟩] w (ydm w (jD k x)):=by
 have e5:jD k x=be (zY k) (vT x):=by unfold jD;rw [if_neg (by omega)]
 rw [e5]
 have g5:(k==5)=false:=by simpa using (by omega:¬ k=5)
 have HN:=h_ (fun W=>(yaP (vT x) (zY k) W (ybs k) (yt9 x)).mono fun _ _=>yu6 (by rw [zD];exact yjo h1 h4))
 have HW:=h_ (fun W=>vQ k W)
 by_cases hx:x=[]
 ·subst hx
  rw [yqa] at HN ⊢
  go_in
  go_wp2_with fail
  refine (HW.out _).mono ?_
  rintro e w' ⟨rfl,rfl⟩
  go_wp2_with fail
  refine (HN.out _).mono ?_
  rintro e w3 ⟨v,rfl,h⟩
  have HR:=h_ h
  clear h
  go_wp2
  go_ret
  exact ⟨_,rfl,HR.out⟩
 ·obtain ⟨q,hq,hd,hl,hh⟩:=yhX hf h1 h4 hx
  have hp:=yjD k
  have HI:=h_ (fun W=>ynX x q W (h_ hq) (h_ hd) (h_ ⟨by omega,by omega⟩))
  have hne:x.isEmpty=false:=by
   cases x with
   | nil=>exact absurd rfl hx
   | cons=>rfl
  clear hq hd hl hh hp hf
  go_in
  go_wp2_with fail
  refine (HI.out _).mono ?_
  rintro e w' ⟨rfl,rfl⟩
  go_wp2_with fail
  refine (HW.out _).mono ?_
  rintro e w' ⟨rfl,rfl⟩
  go_wp2_with fail
  refine (HN.out _).mono ?_
  rintro e w3 ⟨v,rfl,h⟩
  have HR:=h_ h
  clear h
  go_wp2
  go_ret
  exact ⟨_,rfl,HR.out⟩
theorem yqQ (k:Int) (x:Lb) (w:World) (hf:zZ k x=true) (h1:1≤k) (h5:k≤5):Calls Tryz.prog 103 #[.int .i64 k,.string ⟨x.toArray⟩] w (ydm w (jD k x)):=by
 by_cases h:k=5
 ·subst h;exact yqO x w (ycc hf)
 ·exact yqP k x w hf h1 (by omega)
theorem yqR (k:Int) (p:Oa) (c n:Nat) (xs:List Lb) (w:World) (hx:Hid (xs.length=n)) (hn:n≤4096) (hs:Ss w p xs) (z:Int) (HZ:Hid (vN k xs=z)) (hz:z≠0) :
  Calls Tryz.prog 56 #[.int .i64 k,.slice p n c] w (Rp (.tuple #[.slice none 0 0,.int .i64 z]) w):=by
 have HC:=h_ (yf2 k p c n xs w hx hn hs)
 rw [HZ.out] at HC
 clear hs
 have gz:(z != 0)=true:=by rw [bne_iff_ne];exact hz
 go_in
 go_wp2_with fail
 refine (HC.out).mono ?_
 rintro e w1 ⟨rfl,hb1⟩
 have yY:=h_ hb1
 clear hb1
 go_wp2
 go_ret2
 exact ⟨rfl,yY.out⟩
theorem yn6 (k:Int) (p:Oa) (c n:Nat) (xs:List Lb) (w:World) (hx:Hid (xs.length=n)) (hn:n≤4096) (hs:Ss w p xs) (HZ:Hid (vN k xs=0)) :
  Calls Tryz.prog 56 #[.int .i64 k,.slice p n c] w fun e w'=>∃ v,e=.returned (.tuple #[v,.int .i64 0])∧PutG w (vI k xs) w' v:=by
 have HS:=h_ hs
 have HC:=h_ (yf2 k p c n xs w hx hn hs)
 rw [HZ.out] at HC
 clear hs
 have hk:isT k=true∧xs.all (zZ k)=true:=by
  have h:=HZ.out
  unfold vN at h
  by_cases h1:isT k=false
  ·rw [if_pos h1] at h;cases h
  ·rw [if_neg h1] at h
   by_cases h2:xs.all (zZ k)=false
   ·rw [if_pos h2] at h;cases h
   ·exact ⟨by simpa using h1,by simpa using h2⟩
 have HK1:Hid (1≤k∧k≤5):=h_ (by
  have h:=hk.1
  unfold isT at h
  rw [Bool.and_eq_true,decide_eq_true_eq,decide_eq_true_eq] at h
  exact h)
 have HFA:Hid (∀ x ∈ xs,zZ k x=true):=h_ (List.all_eq_true.1 hk.2)
 obtain ⟨P,GO⟩:=ez ((n+7)/8)
 have ysn:Hid ((xs.length+7)/8=P):=h_ (by rw [hx.out];exact GO.out)
 have hP:P≤512:=by have:=GO.out;omega
 have hPi:((n:Int)+7)/8=(P:Int):=by have:=GO.out;omega
 have hni:(n:Int)≤4096:=by omega
 obtain ⟨i0,hi,hz0,hz1,hz2⟩:=info_parts uF
 clear hk
 go_in
 go_wp2_with fail
 refine (HC.out).mono ?_
 rintro e w1 ⟨rfl,hb1⟩
 have yY:=h_ hb1
 clear hb1
 go_wp2_with (at_make;rw [hPi];refine wpList_make_full _ rfl _ _ 39 rfl w.heap.size 5 i0 (.int .u8 0) 1 Tryz.underlying39 hi hz0 hz1 _ _ _ _ P rfl rfl (by rfl) (by rfl) ?b2 ?b3 yY.out.size ?_)
 case b2=>rw [hz2];omega
 case b3=>unfold maxLen;omega
 intro w2 yP zB
 obtain ⟨G,HGG⟩:=ez (w1.heap.size)
 rw [HGG.out] at yP ⊢
 have HP0:Hid (PutG w (GF xs P 0) w2 (.slice (some ⟨G,0,none⟩) P P)):=h_ (by
  refine ⟨?_,yY.out.grown zB yY.out.size (fun _ h=>by cases h)⟩
  rw [GF,yqn,List.length_replicate]
  exact yP)
 clear yP zB hPi
 go_wp2
 go_loopw [8] (fun iv wr=>∃ i:Nat,i≤n∧iv=.int .i64 i∧Hid (PutG w (GF xs P i) wr (.slice (some ⟨G,0,none⟩) P P))) (fun iv _=>n-(intOf iv).toNat)
 case atStart=>exact ⟨0,Nat.zero_le _,rfl,HP0⟩
 case round =>
  obtain ⟨i,hi9,rfl,HK⟩:=hrel
  obtain ⟨wo,rfl⟩:∃ wo,wo=wr:=⟨_,rfl⟩
  have ii:(i:Int)≤(n:Int):=by omega
  by_cases hlt:i<n
  ·have ilt:(i:Int)<(n:Int):=by omega
   have hil:i<xs.length:=by rw [hx.out];exact hlt
   obtain ⟨b1,o1,x,e1,hb1,hc1,hxx⟩:=(HS.out.below HK.out.below).at hil
   subst e1
   by_cases hxe:x=[]
   ·subst hxe
    have HP1:Hid (PutG w (GF xs P (i+1)) wo (.slice (some ⟨G,0,none⟩) P P)):=h_ (by
     rw [GF,if_pos hxx.out];exact HK.out)
    clear hil hb1
    go_wp2
    go_roundw
    case rel=>exact ⟨i+1,by omega,by go_num,HP1⟩
    case measure=>simp [intOf];omega
   ·have hxb:x.isEmpty=false:=by
     cases x with
     | nil=>exact absurd rfl hxe
     | cons=>rfl
    have hi8:i/8<P:=by have:=GO.out;omega
    obtain ⟨j,HJ⟩:=ez (i/8)
    obtain ⟨r,HR⟩:=ez (i%8)
    have hr8:r<8:=by have:=HR.out;omega
    rw [HJ.out] at hi8
    have hjl:j<(GF xs P i).length:=by rw [jW];exact hi8
    obtain ⟨g,cap,hv5,hcap,hg,hgl,zS,vW,GZ⟩:=yat HK.out.own (by omega)
    rw [jW] at hv5 GZ
    cases hv5
    have gc:=zS j hjl
    have gf:=vW j
    have ijM:(j:Int)<(P:Int):=by omega
    have ij5:(j:Int)≤512:=by omega
    have hdi:(i:Int)/8=(j:Int):=by have:=HJ.out;omega
    have hmi:(i:Int)%8=(r:Int):=by have:=HR.out;omega
    obtain ⟨c0,HC0⟩:=ez ((GF xs P i).getD j 0)
    rw [HC0.out] at gc
    obtain ⟨y,HY⟩:=ez (orB c0 r)
    have hor:bits .or .u8 (c0.toNat:Int) (2^r%256)=((y.toNat:Nat):Int):=by
     have h2:2^r<2^8:=Nat.pow_lt_pow_right (by omega) hr8
     have e:(2:Int)^r%256=((2^r:Nat):Int):=by
      have e0:(2:Int)^r=((2^r:Nat):Int):=by simp
      have h3:2^r<256:=h2
      rw [e0]
      generalize 2^r=t at h3
      omega
     rw [e,u8_or_nat _ _ c0.toNat_lt h2,← HY.out,yes c0 hr8]
    obtain ⟨W1,vA⟩:=ez ((wo.setCell ⟨G,j,none⟩ (.int .u8 (y.toNat:Int))).drew)
    have HP1:Hid (PutG w (GF xs P (i+1)) W1 (.slice (some ⟨G,0,none⟩) P P)):=h_ (by
     have e1:(GF xs P i).set j y=GF xs P (i+1):=by
      rw [GF,if_neg (by rw [hxx.out];exact hxe),HJ.out,HR.out,← HY.out,← HC0.out]
     refine ⟨?_,?_⟩
     ·rw [jW,← e1,← vA.out];exact GZ j y hi8
     ·rw [← vA.out];exact (HK.out.below.setCell hg _).drew)
    clear hil hb1 zS vW GZ hjl
    go_wp2_with fail
    go_region
    rw [vA.out]
    clear hor gc gf hdi hmi
    go_wp2
    go_roundw
    case rel=>exact ⟨i+1,by omega,by go_num,HP1⟩
    case measure=>simp [intOf];omega
  ·obtain rfl:i=n:=by omega
   have ilt:¬ (i:Int)<(i:Int):=by omega
   obtain ⟨n,rfl⟩:∃ n,n=i:=⟨_,rfl⟩
   have HPP:Hid (PutG w (GF xs P n++els k xs 0) wo (.slice (some ⟨G,0,none⟩) P P)):=h_ (by
    rw [show els k xs 0=[] by simp [els],List.append_nil];exact HK.out)
   clear HK
   go_wp2
   go_loopw [7,9] (fun v iv wr=>∃ i:Nat,i≤n∧iv=.int .i64 i∧Hid (PutG w (GF xs P n++els k xs i) wr v)) (fun _ iv _=>n-(intOf iv).toNat)
   case atStart=>exact ⟨0,Nat.zero_le _,rfl,HPP⟩
   case round =>
    obtain ⟨i,hi9,rfl,HK⟩:=hrel
    have ii:(i:Int)≤(n:Int):=by omega
    by_cases hlt:i<n
    ·have ilt:(i:Int)<(n:Int):=by omega
     have hil:i<xs.length:=by rw [hx.out];exact hlt
     obtain ⟨b1,o1,x,e1,hb1,hc1,hxx⟩:=(HS.out.below HK.out.below).at hil
     subst e1
     have HF:Hid (zZ k x=true):=h_ (HFA.out x (by rw [← hxx.out,List.getD_eq_getElem?_getD,List.getElem?_eq_getElem hil];exact List.getElem_mem _))
     have HEL:Hid (P+(els k xs i).length≤100000000):=h_ (by have:=yid HFA.out i (by omega);omega)
     have H18:=h_ (yqQ k x wr HF.out HK1.out.1 HK1.out.2)
     clear hb1
     go_wp2_with fail
     refine (H18.out).mono ?_
     rintro e w3 ⟨ev,rfl,hb3,hel⟩
     rcases hel with ⟨rfl,hnil⟩|⟨ad,cc,rfl,yb0⟩
     ·have HP3:Hid (PutG w (GF xs P n++els k xs (i+1)) w3 u7):=h_ (by
       rw [yd4 hil,hxx.out,hnil,List.append_nil]
       exact ⟨jG HK.out.own hb3,tr HK.out.below hb3⟩)
      have yjh:=h_ (jG HK.out.own hb3)
      clear hnil hb3 hil
      go_wp2_with (at_builtin;refine wpList_append_own_none rfl (.tmp 51) (.tmp 57) 39 rfl w.heap.size 5 i0 1 Tryz.underlying39 hi _ _ _ rfl yjh.out rfl ?_)
      go_wp2
      go_roundw
      case rel=>exact ⟨i+1,by omega,by go_num,HP3⟩
      case measure=>simp [intOf];omega
     ·have yjh:=h_ (jG HK.out.own hb3)
      have HBW3:Hid (Be w w3):=h_ (tr HK.out.below hb3)
      have HNEWS:=h_ yb0
      have hbl:Hid ((GF xs P n++els k xs i).length+(jD k x).length≤maxLen∧((GF xs P n++els k xs i).length+(jD k x).length)*1≤140737488355328∧w.heap.size≤w3.heap.size):=h_ (by
       have h1:=HEL.out
       have h2:=yet HF.out
       have h3:=HBW3.out.size
       rw [List.length_append,jW]
       unfold maxLen;omega)
      clear yb0 hb3
      go_wp2_with (at_builtin;refine wpList_append_own_at _ rfl (.tmp 51) (.tmp 57) 39 rfl w.heap.size 5 i0 (.int .u8 0) 1 1 Tryz.underlying39 hi hz0 hz1 hz2 rfl (by decide) _ _ _ rfl yjh.out ad (jD k x).length cc (zN (jD k x)) rfl (by rw [yaA,Nat.mul_one]) HNEWS.out (ydQ _) hbl.out.1 hbl.out.2.1 hbl.out.2.2 ?_)
      intro v5 w5 yM yH _ _
      have HP3:Hid (PutG w (GF xs P n++els k xs (i+1)) w5 v5):=h_ (by
       rw [yd4 hil,hxx.out,← List.append_assoc]
       refine PutG.next (L:=GF xs P n++els k xs i) (W:=w3) ⟨yjh.out,HBW3.out⟩ ⟨?_,yH⟩
       rw [List.length_append,yhY,List.length_append];exact yM)
      clear yM yH hil
      go_wp2
      go_roundw
      case rel=>exact ⟨i+1,by omega,by go_num,HP3⟩
      case measure=>simp [intOf];omega
    ·obtain rfl:i=n:=by omega
     have ilt:¬ (i:Int)<(i:Int):=by omega
     have yaq:Hid (PutG w (vI k xs) wr u7):=h_ (by unfold vI ybm;rw [hx.out,GO.out];exact HK.out)
     go_wp2
     go_ret2
     exact ⟨_,rfl,yaq.out⟩
end
section
open Go.RowKit Big
section
variable {B : Nat} {s : Bool} {u1 v1 : Value} {t : Bool} {u2 v2 : Value} {w0 W W' : World}
end
section
variable {W : World}
end
section
variable {B : Nat} {w0 W W' : World}
end
theorem yqS (z:Int) (w:World) (h1:-9223372036854775808≤z) (h2:z≤9223372036854775807):Calls Tryz.prog 29 #[.int .i64 z] w (yae (z:Rat) w):=by
 have zH:=yA (Resa.start w)
 have hq:=yA (yjV z)
 have hno:∀ W,Hid (Calls Tryz.prog 66 #[.int .u64 ((z.natAbs:Nat):Int)] W (zJ z.natAbs W)):=fun W=>yA (yav _ W (by omega))
 have jT:∀ W,Hid (Calls Tryz.prog 67 #[] W (zJ 1 W)):=fun W=>yA (ycX W)
 have hmk:∀ W u v,yE W u z.natAbs→yE W v 1→Hid (Calls Tryz.prog 65 #[.bool (decide (z<0)),u,v] W (yae (z:Rat) W)):=fun W u v hu hv=>yA (by
  have h:=ybW (decide (z<0)) u v z.natAbs 1 3 W (by omega) (by rw [zE];omega) (by rw [zE];omega) hu hv
  rw [hq.out] at h;exact h)
 by_cases hz:z<0
 ·obtain ⟨m,hm⟩:∃ m:Nat,z=-(m:Int)-1:=⟨(-z-1).toNat,by omega⟩
  have hab:z.natAbs=m+1:=by omega
  have hd:decide (z<0)=true:=by simpa using hz
  rw [hab] at hno
  rw [hd] at hmk
  rw [hab] at hmk
  have hm2:(m:Int)≤9223372036854775807:=by omega
  have hmz:-(z+1)=(m:Int):=by omega
  have hm3:((m+1:Nat):Int)=(m:Int)+1:=by omega
  rw [hm3] at hno
  clear hq
  go_in
  go_wp2_with fail
  refine (hno _).out.mono ?_
  rintro e w1 ⟨v1,rfl,hv1,hb1,-⟩
  obtain ⟨p1,n1,c1,rfl⟩:=hv1.slice
  have hr1:=yA (zH.out.next hb1)
  have Hv1:=yA hv1
  clear hv1 hb1
  go_wp2_with fail
  refine (jT _).out.mono ?_
  rintro e w2 ⟨v2,rfl,hv2,hb2,-⟩
  obtain ⟨p2,n2,c2,rfl⟩:=hv2.slice
  have hr2:=yA (hr1.out.next hb2)
  have hm2':=hmk w2 _ _ (Hv1.out.below hb2) hv2
  clear hv2 hb2
  go_wp2_with fail
  refine hm2'.out.mono ?_
  rintro e w3 ⟨x3,rfl,hx3,hb3⟩
  obtain ⟨p3,n3,c3,p4,n4,c4,rfl,hu3,hv3⟩:=hx3.slices
  have hr3:=yA (hr2.out.next hb3)
  obtain ⟨z0,z1,z2,l0,l1,l2,f0,f1,f2⟩:=hr3.out.slots
  obtain ⟨sb,hsb⟩:∃ sb,Hid (sb=decide ((z:Rat).num<0)):=⟨_,yA rfl⟩
  rw [← hsb.out]
  have q1:=yA (hr3.out.nat3 nl hu3 sb p3 p4 n3 c3 n4 c4)
  have q2:=yA (hv3.imp (fun h=>hr3.out.nat3 nl h sb p3 p4 n3 c3 n4 c4) fun h=>And.intro (hr3.out.nat3 nl h.1 sb p3 p4 n3 c3 n4 c4) h.2)
  have q3:=yA (hr3.out.put3 nl sb p3 p4 n3 c3 n4 c4).below
  clear hu3 hv3 hb3 hm2' hx3
  go_wp2
  refine bodyPost_ret (v:=.agg #[.bool sb,.slice p3 n3 c3,.slice p4 n4 c4]) (by simp [results,Tryz.results29,go_sem,l0,l1,l2]) rfl ?_
  exact ⟨_,rfl,⟨_,_,by rw [hsb.out],q1.out,q2.out⟩,q3.out⟩
 ·obtain ⟨m,rfl⟩:∃ m:Nat,z=(m:Int):=⟨z.toNat,by omega⟩
  have hd:decide ((m:Int)<0)=false:=by simp
  rw [hd] at hmk
  have hab:((m:Int)).natAbs=m:=by omega
  rw [hab] at hno hmk
  clear hq
  go_in
  go_wp2_with fail
  refine (hno _).out.mono ?_
  rintro e w1 ⟨v1,rfl,hv1,hb1,-⟩
  obtain ⟨p1,n1,c1,rfl⟩:=hv1.slice
  have hr1:=yA (zH.out.next hb1)
  have Hv1:=yA hv1
  clear hv1 hb1
  go_wp2_with fail
  refine (jT _).out.mono ?_
  rintro e w2 ⟨v2,rfl,hv2,hb2,-⟩
  obtain ⟨p2,n2,c2,rfl⟩:=hv2.slice
  have hr2:=yA (hr1.out.next hb2)
  have hm2':=hmk w2 _ _ (Hv1.out.below hb2) hv2
  clear hv2 hb2
  go_wp2_with fail
  refine hm2'.out.mono ?_
  rintro e w3 ⟨x3,rfl,hx3,hb3⟩
  obtain ⟨p3,n3,c3,p4,n4,c4,rfl,hu3,hv3⟩:=hx3.slices
  have hr3:=yA (hr2.out.next hb3)
  obtain ⟨z0,z1,z2,l0,l1,l2,f0,f1,f2⟩:=hr3.out.slots
  obtain ⟨sb,hsb⟩:∃ sb,Hid (sb=decide (((m:Int):Rat).num<0)):=⟨_,yA rfl⟩
  rw [← hsb.out]
  have q1:=yA (hr3.out.nat3 nl hu3 sb p3 p4 n3 c3 n4 c4)
  have q2:=yA (hv3.imp (fun h=>hr3.out.nat3 nl h sb p3 p4 n3 c3 n4 c4) fun h=>And.intro (hr3.out.nat3 nl h.1 sb p3 p4 n3 c3 n4 c4) h.2)
  have q3:=yA (hr3.out.put3 nl sb p3 p4 n3 c3 n4 c4).below
  clear hu3 hv3 hb3 hm2' hx3
  go_wp2
  refine bodyPost_ret (v:=.agg #[.bool sb,.slice p3 n3 c3,.slice p4 n4 c4]) (by simp [results,Tryz.results29,go_sem,l0,l1,l2]) rfl ?_
  exact ⟨_,rfl,⟨_,_,by rw [hsb.out],q1.out,q2.out⟩,q3.out⟩
end
section
open Go.RowKit Big
open Go.Lib
theorem yd7 {u:Nat} (h:u<18446744073709551616):nDigits u≤40:=by
 have:=nDigits_le20 u h
 omega
theorem ys9 (n:Int) (h0:-9223372036854775808≤n) (h1:n≤9223372036854775807):txt (n:Rat)=itoa n:=by
 rw [yfs,Rat.num_intCast,Rat.den_intCast,if_pos ⟨yd7 (by omega),yd7 (by omega)⟩]
 unfold wrote itoa
 by_cases h:n<0
 ·simp [h]
 ·simp [h];congr 1;omega
theorem ya2 (n:Int) (h0:Hid (-9223372036854775808≤n∧n≤9223372036854775807)) (w:World):Calls Tryz.prog 171 #[.int .i64 n] w (ynh (itoa n) w):=by
 have h1:=h_ (yqS n w h0.out.1 h0.out.2)
 have hl:QLt 3 (n:Rat):=⟨by rw [Rat.num_intCast,zE];have:=h0.out;omega,by rw [Rat.den_intCast,zE];omega⟩
 have h2:Hid (∀ W x,uH W x (n:Rat)→Calls Tryz.prog 82 #[x] W (Rp (.string ⟨(itoa n).toArray⟩) W)):=h_ fun W x hx=>by
  rw [← ys9 n h0.out.1 h0.out.2];exact yt3 x _ 3 W (by omega) hl hx
 unfold ynh
 generalize (⟨(itoa n).toArray⟩:ByteArray)=y at h2 ⊢
 clear hl h0
 go_in
 go_wp2_with fail
 refine h1.out.mono ?_
 rintro e w1 ⟨x,rfl,hx,hb1⟩
 have h3:=h2.out w1 x hx
 obtain ⟨p3,n3,c3,p4,n4,c4,rfl,-,-⟩:=hx.slices
 generalize decide ((n:Rat).num<0)=sb at h3 ⊢
 have HB:=h_ hb1
 have H3:=h_ h3
 clear hb1 hx h3
 go_wp2_with fail
 refine H3.out.mono ?_
 rintro e w2 ⟨rfl,hb2⟩
 have vK:=th HB hb2
 clear hb2
 go_wp2
 go_ret
 exact ⟨rfl,vK.out⟩
end
section
open Go.RowKit
open Go.Lib
theorem yks (n N:Nat) (w:World) (hn:n=1∨n=2∨n=4∨n=8) (HNL:Hid (N<256^n)) :
  Calls Tryz.prog 119 #[.int .u64 (N:Int),.int .i64 (n:Int)] w (Rp (.string ⟨(Lib.itoa (sgI n N)).toArray⟩) w):=by
 obtain ⟨v,HV⟩:=ez (sgI n N)
 rw [HV.out]
 rcases hn with rfl|rfl|rfl|rfl
 ·have hN:N<256:=HNL.out
  have hiN:(N:Int)≤255:=by omega
  have hvb:-9223372036854775808≤v∧v≤9223372036854775807:=by
   rw [← HV.out]
   unfold sgI
   split<;>omega
  have hv:wrap64 ((N:Int)*72057594037927936)/72057594037927936=v:=by
   rw [← HV.out]
   unfold sgI wrap64
   split<;>(try split)<;>omega
  have HFI:=h_ (ya2 v (h_ hvb) w)
  clear hvb
  go_in
  go_wp2_with fail
  refine (HFI.out).mono ?_
  rintro e w2 ⟨rfl,hb2⟩
  have vK:=h_ hb2
  clear hb2
  go_wp2
  go_ret
  exact ⟨rfl,vK.out⟩
 ·have hN:N<65536:=HNL.out
  have hiN:(N:Int)≤65535:=by omega
  have hvb:-9223372036854775808≤v∧v≤9223372036854775807:=by
   rw [← HV.out]
   unfold sgI
   split<;>omega
  have hv:wrap64 ((N:Int)*281474976710656)/281474976710656=v:=by
   rw [← HV.out]
   unfold sgI wrap64
   split<;>(try split)<;>omega
  have HFI:=h_ (ya2 v (h_ hvb) w)
  clear hvb
  go_in
  go_wp2_with fail
  refine (HFI.out).mono ?_
  rintro e w2 ⟨rfl,hb2⟩
  have vK:=h_ hb2
  clear hb2
  go_wp2
  go_ret
  exact ⟨rfl,vK.out⟩
 ·have hN:N<4294967296:=HNL.out
  have hiN:(N:Int)≤4294967295:=by omega
  have hvb:-9223372036854775808≤v∧v≤9223372036854775807:=by
   rw [← HV.out]
   unfold sgI
   split<;>omega
  have hv:wrap64 ((N:Int)*4294967296)/4294967296=v:=by
   rw [← HV.out]
   unfold sgI wrap64
   split<;>(try split)<;>omega
  have HFI:=h_ (ya2 v (h_ hvb) w)
  clear hvb
  go_in
  go_wp2_with fail
  refine (HFI.out).mono ?_
  rintro e w2 ⟨rfl,hb2⟩
  have vK:=h_ hb2
  clear hb2
  go_wp2
  go_ret
  exact ⟨rfl,vK.out⟩
 ·have hN:N<18446744073709551616:=HNL.out
  have hiN:(N:Int)≤18446744073709551615:=by omega
  have hvb:-9223372036854775808≤v∧v≤9223372036854775807:=by
   rw [← HV.out]
   unfold sgI
   split<;>omega
  have hv:wrap64 (N:Int)=v:=by
   rw [← HV.out]
   unfold sgI wrap64
   split<;>(try split)<;>omega
  have HFI:=h_ (ya2 v (h_ hvb) w)
  clear hvb
  go_in
  go_wp2_with fail
  refine (HFI.out).mono ?_
  rintro e w2 ⟨rfl,hb2⟩
  have vK:=h_ hb2
  clear hb2
  go_wp2
  go_ret
  exact ⟨rfl,vK.out⟩
def ybH (l:List Lb):List Value:=l.map (fun x=>Value.string ⟨List.toArray x⟩)
theorem yT {w:World} {ops:Array Oper} {rest:List Oper} {o:Oper} {a:Act} {Q:Exit→Act→World→Prop} (hgd:o.guard=none) (s x:Operand)
  (ho:o.op=.call { callee:=.builtin .append,args:=#[s,x],argTypes:=#[30,30] })
  (B:Nat) (pv:Oa) (cv n:Nat) (X:List Lb) (hs:a.eval s=.slice pv n cv) (yP:w.ownsRow B 9 1 (.slice pv n cv) n (ybH X))
  (g:Nat) (y:Lb) (hx:a.eval x=.slice (some ⟨g,0,none⟩) 1 1) (hc:w.cell? ⟨g,0,none⟩=some (.string ⟨List.toArray y⟩)) (hlen:n≤100000) (hB:B≤w.heap.size)
  (h:∀ gv cv' w',w'.ownsRow B 9 1 (.slice (some ⟨gv,0,none⟩) (n+1) cv') (n+1) (ybH (X++[y]))→w.grownBy w' (Value.slice pv n cv).ownBlock→wpList Tryz.prog ops Q rest (a.put o.dst (.slice (some ⟨gv,0,none⟩) (n+1) cv')) w'):wpList Tryz.prog ops Q (o::rest) a w:=by
 obtain ⟨i0,hi,hz0,hz1,hz2⟩:=info_parts yqp
 refine wpList_append_own_at _ hgd s x 30 ho B 9 i0 (.string ⟨#[]⟩) 1 16 Tryz.underlying30 hi hz0 hz1 hz2 rfl (by decide) _ _ _ hs yP ⟨g,0,none⟩ 1 1 [.string ⟨List.toArray y⟩] hx rfl ?_ ?_ (by unfold maxLen;omega) (by omega) hB ?_
 ·intro j u hj
  cases j with
  | zero=>simp at hj;subst hj;exact hc
  | succ j=>simp at hj
 ·intro u hu
  obtain rfl:=List.mem_singleton.1 hu
  rfl
 ·intro v' w' h1 h2 _ _
  obtain ⟨gv,cv',rfl⟩:∃ g c,v'=.slice (some ⟨g,0,none⟩) (n+1) c:=by
   obtain ⟨-,⟨-,e⟩|⟨g,cap,_,e,-⟩⟩:=id h1
   ·omega
   ·exact ⟨g,cap,e⟩
  refine h gv cv' w' ?_ h2
  rw [ybH,List.map_append]
  exact h1
theorem ylX {W:World} {B n cv:Nat} {pv:Oa} {X:List Lb} (h:W.ownsRow B 9 1 (.slice pv n cv) n (ybH X)) (hx:X.length=n):Ss W pv X:=by
 obtain ⟨-,⟨e,e2⟩|⟨g,cap,cur,e,hg,hh,-⟩⟩:=id h
 ·exact .inl (by omega)
 ·injection e with e _ e3
  subst e
  refine .inr ⟨g,0,rfl,(Array.getElem?_eq_some_iff.1 hh).1,fun j hj=>?_⟩
  rw [Nat.zero_add,h.cellAt j (by omega)]
  unfold ybH
  rw [List.getElem?_map,List.getD_eq_getElem?_getD,List.getElem?_eq_getElem hj];rfl
theorem ylY {w U w9:World} {pv:Oa} {cv n:Nat} {vals:List Value} (hb:Be w U) (ho:U.ownsRow w.heap.size 9 1 (.slice pv n cv) n vals) (hg:U.grownBy w9 (Value.slice pv n cv).ownBlock):Be w w9 :=
 hb.grown hg hb.size (fun k e=>by
  obtain ⟨-,⟨hv,-⟩|⟨g,cap,cur,hv,hg,-⟩⟩:=ho
  ·rw [hv] at e;cases e
  ·rw [hv] at e;cases e;exact hg)
theorem yhV {W:World} {p:Oa} {l:Lb} {n:Nat} (h:Bs W p l) (hn:n<l.length):Bs W (p.map fun x=>x.add n) (l.drop n):=by
 rcases h with h0|⟨b,off,hp,hlt,hc⟩
 ·omega
 ·have h2:Bs W (some ⟨b,off,none⟩) l:=.inr ⟨b,off,rfl,hlt,hc⟩
  rw [hp,Option.map_some,add_lit]
  exact ym7 h2 hn
def GI (k:Int) (n:Nat) (lb lr:Lb) (ys:List Lb) (i:Nat):Prop:=∀ xs:List Lb,xs.length=n→vN k xs=0→vI k xs=lb→lr=left k xs i∧ys=xs.take i
theorem ylZ {k:Int} {xs:List Lb} (h:vN k xs=0):∀ x ∈ xs,zZ k x=true:=by
 unfold vN at h
 by_cases h1:isT k=false
 ·rw [if_pos h1] at h;cases h
 ·rw [if_neg h1] at h
  by_cases h2:xs.all (zZ k)=false
  ·rw [if_pos h2] at h;cases h
  ·exact List.all_eq_true.1 (by simpa using h2)
theorem yqT {k:Int} {n P:Nat} {lb:Lb} (hP:(n+7)/8=P):GI k n lb (lb.drop P) [] 0:=fun xs hx hz hp=>by
 refine ⟨?_,rfl⟩
 rw [← hp,ydY,hx,hP]
 exact List.drop_left' (jW _ _ _)
theorem yk6 {k:Int} {n P i:Nat} {lb:Lb} {xs:List Lb} (hx:xs.length=n) (hP:(n+7)/8=P) (hp:vI k xs=lb) (hi:i<n):(lb.getD (i/8) 0).toNat.testBit (i%8)=decide (xs.getD i []≠[]):=by
 have h:=yhT xs P n (by omega) i (by omega)
 have e:lb.getD (i/8) 0=(GF xs P n).getD (i/8) 0:=by
  rw [← hp,ydY,hx,hP,List.getD_eq_getElem?_getD,List.getElem?_append_left (by rw [jW];omega),← List.getD_eq_getElem?_getD]
 rw [e,h]
 congr 1
 exact propext ⟨fun h=>h.2,fun h=>⟨hi,h⟩⟩
theorem ypO {k:Int} {n i:Nat} {lb lr:Lb} {ys xs:List Lb} (h:GI k n lb lr ys i) (hx:xs.length=n) (hz:vN k xs=0) (hp:vI k xs=lb) (hi:i<n):lr=jD k (xs.getD i [])++left k xs (i+1)∧zZ k (xs.getD i [])=true∧ys++[xs.getD i []]=xs.take (i+1):=by
 obtain ⟨h1,h2⟩:=h xs hx hz hp
 have hil:i<xs.length:=by omega
 refine ⟨by rw [h1,yna hil],ylZ hz _ (by rw [gD hil];exact List.getElem_mem _),by rw [h2,yny hil]⟩
theorem yta {n i P:Nat} {lb lr:Lb} {ys:List Lb} (h:GI 5 n lb lr ys i) (hi:i<n) (hP:(n+7)/8=P) (hb:(lb.getD (i/8) 0).toNat.testBit (i%8)=true) :
  ((lr.length<1∨lr.length<1+(lr.getD 0 0).toNat)→∀ xs:List Lb,xs.length=n→vN 5 xs=0→vI 5 xs≠lb) ∧
  (num ((lr.drop 1).take (lr.getD 0 0).toNat)=none→∀ xs:List Lb,xs.length=n→vN 5 xs=0→vI 5 xs≠lb) ∧
  GI 5 n lb (lr.drop (1+(lr.getD 0 0).toNat)) (ys++[(lr.drop 1).take (lr.getD 0 0).toNat]) (i+1):=by
 have key:∀ xs:List Lb,xs.length=n→vN 5 xs=0→vI 5 xs=lb→∃ x R,x≠[]∧zZ 5 x=true∧x=xs.getD i []∧R=left 5 xs (i+1)∧lr=UInt8.ofNat x.length::(x++R)∧(lr.getD 0 0).toNat=x.length∧ys++[x]=xs.take (i+1):=fun xs hx hz hp=>by
  obtain ⟨h1,h2,h3⟩:=ypO h hx hz hp hi
  have ygx:=yk6 hx hP hp hi
  rw [hb] at ygx
  have hne:xs.getD i []≠[]:=of_decide_eq_true ygx.symm
  have hl:=ycc h2
  refine ⟨_,_,hne,h2,rfl,rfl,?_,?_,h3⟩
  ·rw [h1];unfold jD;rw [if_pos rfl,if_neg hne];rfl
  ·rw [h1];unfold jD;rw [if_pos rfl,if_neg hne]
   show (UInt8.ofNat (xs.getD i []).length).toNat=_
   rw [UInt8.toNat_ofNat'];omega
 refine ⟨fun hlen xs hx hz hp=>?_,fun ypp xs hx hz hp=>?_,fun xs hx hz hp=>?_⟩
 ·obtain ⟨x,R,h1,h2,h3,h4,h5,h6,h7⟩:=key xs hx hz hp
  rw [h6] at hlen
  rw [h5,List.length_cons,List.length_append] at hlen
  omega
 ·obtain ⟨x,R,h1,h2,h3,h4,h5,h6,h7⟩:=key xs hx hz hp
  rw [h6,h5] at ypp
  have e:((UInt8.ofNat x.length::(x++R)).drop 1).take x.length=x:=List.take_left
  rw [e] at ypp
  unfold zZ at h2
  rw [if_neg (by decide),if_neg (by decide),if_neg (by decide),if_neg (by decide),if_pos rfl,ypp] at h2
  cases x with
  | nil=>exact h1 rfl
  | cons=>cases h2
 ·obtain ⟨x,R,h1,h2,h3,h4,h5,h6,h7⟩:=key xs hx hz hp
  rw [h6]
  have e1:(lr.drop 1).take x.length=x:=by rw [h5];exact List.take_left
  have e2:lr.drop (1+x.length)=R:=by rw [h5,Nat.add_comm];exact List.drop_left
  rw [e1,e2]
  exact ⟨h4,h7⟩
theorem ye2 {k:Int} {n i P:Nat} {lb lr:Lb} {ys:List Lb} (h:GI k n lb lr ys i) (hi:i<n) (hP:(n+7)/8=P) (hb:(lb.getD (i/8) 0).toNat.testBit (i%8)=false) :
  (lr.length<zY k→∀ xs:List Lb,xs.length=n→vN k xs=0→vI k xs≠lb)∧GI k n lb (lr.drop (zY k)) (ys++[[]]) (i+1):=by
 have key:∀ xs:List Lb,xs.length=n→vN k xs=0→vI k xs=lb→∃ R,R=left k xs (i+1)∧lr=jD k []++R∧(jD k []).length=zY k∧ys++[[]]=xs.take (i+1):=fun xs hx hz hp=>by
  obtain ⟨h1,h2,h3⟩:=ypO h hx hz hp hi
  have ygx:=yk6 hx hP hp hi
  rw [hb] at ygx
  have hne:xs.getD i []=[]:=Classical.not_not.1 (of_decide_eq_false ygx.symm)
  rw [hne] at h1 h3
  refine ⟨_,rfl,h1,?_,h3⟩
  unfold jD
  by_cases h5:k=5
  ·rw [if_pos h5,if_pos rfl,h5];rfl
  ·rw [if_neg h5,zD]
 refine ⟨fun hlen xs hx hz hp=>?_,fun xs hx hz hp=>?_⟩
 ·obtain ⟨R,h1,h2,h3,h4⟩:=key xs hx hz hp
  rw [h2,List.length_append,h3] at hlen
  omega
 ·obtain ⟨R,h1,h2,h3,h4⟩:=key xs hx hz hp
  refine ⟨?_,h4⟩
  rw [h2,← h1]
  exact List.drop_left' h3
theorem yp7 {k:Int} {n i P:Nat} {lb lr:Lb} {ys:List Lb} (h:GI k n lb lr ys i) (hi:i<n) (hP:(n+7)/8=P) (hb:(lb.getD (i/8) 0).toNat.testBit (i%8)=true) (h1:1≤k) (h4:k≤4) :
  (lr.length<zY k→∀ xs:List Lb,xs.length=n→vN k xs=0→vI k xs≠lb)∧GI k n lb (lr.drop (zY k)) (ys++[Lib.itoa (sgI (zY k) (nb (lr.take (zY k))))]) (i+1):=by
 have key:∀ xs:List Lb,xs.length=n→vN k xs=0→vI k xs=lb→∃ x,x≠[]∧zZ k x=true∧lr=jD k x++left k xs (i+1)∧ys++[x]=xs.take (i+1):=fun xs hx hz hp=>by
  obtain ⟨g1,g2,g3⟩:=ypO h hx hz hp hi
  have ygx:=yk6 hx hP hp hi
  rw [hb] at ygx
  exact ⟨_,of_decide_eq_true ygx.symm,g2,g1,g3⟩
 refine ⟨fun hlen xs hx hz hp=>?_,fun xs hx hz hp=>?_⟩
 ·obtain ⟨x,g1,g2,g3,g4⟩:=key xs hx hz hp
  have e:(jD k x).length=zY k:=by unfold jD;rw [if_neg (by omega),zD]
  rw [g3,List.length_append,e] at hlen
  omega
 ·obtain ⟨x,g1,g2,g3,g4⟩:=key xs hx hz hp
  have ht:=yjr (k:=k) (x:=x) (R:=left k xs (i+1)) (by omega)
  rw [← g3] at ht
  rw [ht.1,ht.2,yjp g2 h1 h4 g1]
  exact ⟨rfl,g4⟩
def yaZ (k:Int) (n:Nat) (lb:Lb) (w:World) (e:Ending) (w':World):Prop :=
 Be w w'∧((∃ xs q d,xs.length=n∧vN k xs=0∧vI k xs=lb∧(∀ x2:List Lb,x2.length=n→vN k x2=0→vI k x2=lb→xs=x2)∧e=.returned (.tuple #[.slice q n d,.int .i64 0])∧Ss w' q xs)∨((∀ xs:List Lb,xs.length=n→vN k xs=0→vI k xs≠lb)∧e=.returned (.tuple #[.slice none 0 0,.int .i64 5])))
structure RgI (w:World) (k:Int) (n:Nat) (lb:Lb) (i ml cr cv:Nat) (pr pv:Oa) (lr:Lb) (ys:List Lb) (W:World):Prop where
 below:Be w W
 len:lr.length=ml
 cap:ml≤cr
 small:ml≤1048576
 rest:Bs W pr lr
 low:∀ b off,pr=some ⟨b,off,none⟩→0<lr.length→b<w.heap.size
 own:W.ownsRow w.heap.size 9 1 (.slice pv i cv) i (ybH ys)
 ylen:ys.length=i
 gi:GI k n lb lr ys i
theorem ytb {w U w9:World} {p pv:Oa} {l:Lb} {cv n:Nat} {vals:List Value} (h:Bs U p l) (ho:U.ownsRow w.heap.size 9 1 (.slice pv n cv) n vals) (hg:U.grownBy w9 (Value.slice pv n cv).ownBlock) (hp:∀ b off,p=some ⟨b,off,none⟩→0<l.length→b<w.heap.size):Bs w9 p l:=by
 rcases h with h0|⟨b,off,e,hlt,hc⟩
 ·exact .inl h0
 ·refine .inr ⟨b,off,e,Nat.lt_of_lt_of_le hlt hg.size,fun j hj=>?_⟩
  have hb:=hp b off e (by omega)
  have h1:=hg.block b hlt (by
   intro e2
   obtain ⟨-,⟨hv,-⟩|⟨g,cap,cur,hv,hge,-⟩⟩:=ho
   ·rw [hv] at e2;cases e2
   ·rw [hv] at e2
    have e3:b=g:=by simpa [Value.ownBlock,eq_comm] using e2
    omega)
  have h2:=hc j hj
  simp only [World.cell?] at h2 ⊢
  rw [h1];exact h2
theorem ynd {pr:Oa} {l:Lb} {W:World} {B n b off:Nat} (hr:Bs W pr l) (hl:∀ b off,pr=some ⟨b,off,none⟩→0<l.length→b<B) (h0:0<l.length) (e:(pr.map fun x=>x.add n)=some ⟨b,off,none⟩):b<B:=by
 rcases hr with h|⟨b',off',hp,-⟩
 ·omega
 ·rw [hp,Option.map_some,add_lit] at e
  cases e
  exact hl _ _ hp h0
theorem RgI.next {w wr W5 U w9:World} {k:Int} {n i ml cr cv sz gv cv' c2:Nat} {lb lr T:Lb} {ys:List Lb} {pr pv p2:Oa} (h:RgI w k n lb i ml cr cv pr pv lr ys wr) (h5:Be wr W5) (hU:Be W5 U) (hsz:sz≤ml)
  (hp2:(sz=cr∧c2=0)∨(p2=(pr.map fun x=>x.add sz)∧c2=cr-sz)) (yP:w9.ownsRow w.heap.size 9 1 (.slice (some ⟨gv,0,none⟩) (i+1) cv') (i+1) (ybH (ys++[T]))) (hg:U.grownBy w9 (Value.slice pv i cv).ownBlock) (hgi:GI k n lb (lr.drop sz) (ys++[T]) (i+1)) :
  RgI w k n lb (i+1) (ml-sz) c2 cv' p2 (some ⟨gv,0,none⟩) (lr.drop sz) (ys++[T]) w9:=by
 have ho:U.ownsRow w.heap.size 9 1 (.slice pv i cv) i (ybH ys):=jG (jG h.own h5) hU
 have hbU:Be w U:=(tr h.below h5).trans (hU.mono (Nat.le_trans h.below.size h5.size))
 have hr:Bs w9 pr lr:=ytb ((h.rest.below h5).below hU) ho hg h.low
 have hl:=h.len
 have hc:=h.cap
 refine ⟨ylY hbU ho hg,by rw [List.length_drop,hl],?_,by have:=h.small;omega,?_,?_,yP,by rw [List.length_append,h.ylen];rfl,hgi⟩
 ·rcases hp2 with ⟨e1,e2⟩|⟨e1,e2⟩<;>omega
 ·rcases hp2 with ⟨e1,e2⟩|⟨e1,e2⟩
  ·exact .inl (by rw [List.length_drop];omega)
  ·rw [e1]
   by_cases hd:sz<lr.length
   ·exact yhV hr hd
   ·exact .inl (by rw [List.length_drop];omega)
 ·intro b off e h0
  rw [List.length_drop] at h0
  rcases hp2 with ⟨e1,e2⟩|⟨e1,e2⟩
  ·omega
  ·rw [e1] at e
   exact ynd h.rest h.low (by omega) e
theorem yjx (k:Int) (p:Oa) (c n m:Nat) (lb:Lb) (w:World) (HK1:Hid (1≤k∧k≤5)) (hn:n≤4096) (hm:Hid (lb.length=m)) (hmc:m≤c) (hb:Bs w p lb) (hml:m≤1048576) (hnm:(n+7)/8≤m) :
  Calls Tryz.prog 64 #[.int .i64 k,.int .i64 (n:Int),.slice p m c] w (yaZ k n lb w):=by
 have HB:=h_ hb
 have hkT:isT k=true:=by unfold isT;rw [decide_eq_true HK1.out.1,decide_eq_true HK1.out.2];rfl
 have HT:=h_ (fun W=>ybB k W)
 rw [hkT] at HT
 have hni:(n:Int)≤4096:=by omega
 obtain ⟨P,GO⟩:=ez ((n+7)/8)
 have HPM:Hid (P≤m):=h_ (by rw [← GO.out];exact hnm)
 have hPi:((n:Int)+7)/8=(P:Int):=by have:=GO.out;omega
 have iPm:¬ (m:Int)<(P:Int):=by have:=HPM.out;omega
 have iPmN:¬ m<P:=by have:=HPM.out;omega
 have hn0:¬ (n:Int)<0:=by omega
 have hn4:¬ (4096:Int)<(n:Int):=by omega
 have yuC:¬ 4096<n:=by omega
 have iPc:(P:Int)≤(c:Int):=by have:=HPM.out;omega
 have iPm2:(P:Int)≤(m:Int):=by omega
 have imm:(m:Int)≤1048576:=by omega
 have HLOW:Hid (∀ b off,p=some ⟨b,off,none⟩→0<lb.length→b<w.heap.size):=h_ (fun b off e h0=>by
  rcases HB.out with h|⟨b',off',hp,hlt,-⟩
  ·omega
  ·rw [hp] at e;cases e;exact hlt)
 have HI0:Hid (∀ p2 c2,((P=c∧c2=0)∨(p2=(p.map fun x=>x.add P)∧c2=c-P))→RgI w k n lb 0 (m-P) c2 0 p2 none (lb.drop P) [] w):=h_ (fun p2 c2 hp2=>by
  have h1:=hm.out
  have h2:=HPM.out
  refine ⟨Below.refl _ _,by rw [List.length_drop,h1],by rcases hp2 with ⟨e1,e2⟩|⟨e1,e2⟩<;>omega,by omega,?_,?_,World.ownsRow_nil w w.heap.size 9 1,rfl,yqT GO.out⟩
  ·rcases hp2 with ⟨e1,e2⟩|⟨e1,e2⟩
   ·exact .inl (by rw [List.length_drop];omega)
   ·rw [e1]
    by_cases hd:P<lb.length
    ·exact yhV HB.out hd
    ·exact .inl (by rw [List.length_drop];omega)
  ·intro b off e h0
   rw [List.length_drop] at h0
   rcases hp2 with ⟨e1,e2⟩|⟨e1,e2⟩
   ·omega
   ·rw [e1] at e
    exact ynd HB.out HLOW.out (by omega) e)
 have HLOOP:Hid (∃ p2 c2 l2,RgI w k n lb 0 l2 c2 0 p2 none (lb.drop P) [] w∧((c=P∧p2=p∧c2=0∧l2=0)∨(c≠P∧p2=(p.map fun x=>x.add P)∧c2=c-P∧l2=m-P))):=h_ (by
  by_cases hck:c=P
  ·have e:m-P=0:=by have:=HPM.out;omega
   have h:=HI0.out p 0 (.inl ⟨hck.symm,rfl⟩)
   rw [e] at h
   exact ⟨_,_,_,h,.inl ⟨hck,rfl,rfl,rfl⟩⟩
  ·exact ⟨_,_,_,HI0.out _ _ (.inr ⟨rfl,rfl⟩),.inr ⟨hck,rfl,rfl,rfl⟩⟩)
 obtain ⟨p2,c2,l2,hI,yds⟩:=HLOOP.out
 have HII:=h_ hI
 clear hb hkT hnm hI
 refine yds.elim (fun h=>?ca) (fun h=>?cb)
 case' ca =>
  obtain ⟨hck,rfl,rfl,rfl⟩:=h
  subst hck
  go_in
  go_wp2_with fail
  refine (HT.out _).mono ?_
  rintro e w' ⟨rfl,rfl⟩
  go_wp2_with fail
  rw [hPi]
 case' cb =>
  obtain ⟨hck,hp2,rfl,rfl⟩:=h
  have HP2:=h_ hp2
  clear hp2
  go_in
  go_wp2_with fail
  refine (HT.out _).mono ?_
  rintro e w' ⟨rfl,rfl⟩
  go_wp2_with fail
  rw [hPi,← HP2.out]
 all_goals
  go_loopw [9,10,11] (fun rv ov iv wr=>∃ (i ml cr cv:Nat) (pr pv:Oa) (lr:Lb) (ys:List Lb),i≤n∧iv=.int .i64 i∧rv=.slice pr ml cr∧ov=.slice pv i cv∧Hid (RgI w k n lb i ml cr cv pr pv lr ys wr)) (fun _ _ iv _=>n-(intOf iv).toNat)
  case atStart=>exact ⟨0,_,_,0,_,none,_,[],Nat.zero_le _,rfl,rfl,rfl,HII⟩
  case round =>
   obtain ⟨i,ml,cr,cv,pr,pv,lr,ys,hi9,rfl,rfl,rfl,HI⟩:=hrel
   have ii:(i:Int)≤(n:Int):=by omega
   by_cases hlt:i<n
   ·have ilt:(i:Int)<(n:Int):=by omega
    obtain ⟨j,HJ⟩:=ez (i/8)
    obtain ⟨r,HR⟩:=ez (i%8)
    have hjm:j<lb.length:=by rw [hm.out];have:=HJ.out;have:=GO.out;have:=HPM.out;omega
    obtain ⟨b1,o1,d,e1,hb1,hc1,hd,hd255⟩:=(HB.out.below HI.out.below).at hjm
    subst e1
    obtain ⟨bt,HBT⟩:=ez ((lb.getD j 0).toNat.testBit r)
    have HBI:Hid ((lb.getD (i/8) 0).toNat.testBit (i%8)=bt):=h_ (by rw [HJ.out,HR.out];exact HBT.out)
    have ybJ:bits .and .u8 ((d:Int)/2^r) 1=(if bt then 1 else 0):=by
     have h:=yhU (lb.getD j 0) r
     rw [HBT.out,hd.out] at h
     exact h
    have hdi:(i:Int)/8=(j:Int):=by have:=HJ.out;omega
    have hmi:(i:Int)%8=(r:Int):=by have:=HR.out;omega
    have ijm:(j:Int)<(m:Int):=by have:=hm.out;omega
    have ijs:(j:Int)≤512:=by have:=HJ.out;omega
    have HML:Hid (lr.length=ml):=h_ HI.out.len
    have ycK:Hid (ml≤cr):=h_ HI.out.cap
    have himl:(ml:Int)≤1048576:=by have:=HI.out.small;omega
    obtain ⟨wd,HWD⟩:=ez (zY k)
    have iwd:(wd:Int)≤8:=by have:=ybs k;rw [HWD.out] at this;omega
    clear hb1 hd hjm
    cases bt with
    | false =>
     rw [if_neg (by simp)] at ybJ
     by_cases h5:k=5
     ·have g5:(k==5)=true:=by rw [h5];rfl
      have H5:=h_ h5
      clear h5
      by_cases hsw:ml<wd
      ·have isw:(ml:Int)<(wd:Int):=by omega
       have HX:Hid (yaZ k n lb w (.returned (.tuple #[.slice none 0 0,.int .i64 5])) wr):=h_ ⟨HI.out.below,.inr ⟨(ye2 HI.out.gi hlt GO.out HBI.out).1 (by rw [HML.out,HWD.out];exact hsw),rfl⟩⟩
       go_wp2_with fail
       refine (vQ k _).mono ?_
       rintro e w' ⟨rfl,rfl⟩
       rw [HWD.out]
       go_wp2
       go_ret2
       exact HX.out
      ·have isw:¬ (ml:Int)<(wd:Int):=by omega
       have HSZ:Hid (wd≤ml):=h_ (by omega)
       have HB5:Hid (Be wr wr):=h_ bR
       have HGN:Hid (GI k n lb (lr.drop wd) (ys++[[]]) (i+1)):=h_ (by have h:=(ye2 HI.out.gi hlt GO.out HBI.out).2;rw [HWD.out] at h;exact h)
       go_wp2_with fail
       refine (vQ k _).mono ?_
       rintro e w' ⟨rfl,rfl⟩
       rw [HWD.out]
       have ygy:Hid (wr.ownsRow w.heap.size 9 1 (.slice pv i cv) i (ybH ys)):=h_ (jG HI.out.own HB5.out)
       obtain ⟨gU,HgU⟩:∃ g,Hid (wr.heap.size=g):=⟨_,rfl⟩
       obtain ⟨U,HUU⟩:=ez (wr.alloc (.cells #[.string ⟨([]:Lb).toArray⟩] 9))
       have yaz:Hid (Be wr U):=h_ (by rw [← HUU.out];exact bR.alloc nl _)
       have HOU:Hid (U.ownsRow w.heap.size 9 1 (.slice pv i cv) i (ybH ys)):=h_ (jG ygy.out yaz.out)
       have HUC:Hid (U.cell? ⟨gU,0,none⟩=some (.string ⟨([]:Lb).toArray⟩)):=h_ (by
        rw [← HUU.out,← HgU.out];have:=heap_alloc_new wr (.cells #[.string ⟨([]:Lb).toArray⟩] 9);unfold World.cell?;simp only [this];rfl)
       have HUS:Hid (w.heap.size≤U.heap.size):=h_ (Nat.le_trans HI.out.below.size (Nat.le_trans HB5.out.size yaz.out.size))
       have hi2:i≤100000:=by omega
       have iszm:(wd:Int)≤(ml:Int):=by have:=HSZ.out;omega
       have iszc:(wd:Int)≤(cr:Int):=by have:=HSZ.out;have:=ycK.out;omega
       by_cases hck:cr=wd
       ·have hz0:ml-wd=0:=by have:=HSZ.out;have:=ycK.out;omega
        have HCK:=h_ hck.symm
        go_wp2_with (first|(rw [HUU.out,HgU.out];at_builtin;refine yT rfl (.tmp 99) (.tmp 101) rfl w.heap.size pv cv i ys rfl HOU.out gU ([]:Lb) rfl HUC.out hi2 HUS.out ?_)|(at_builtin;rw [HUU.out,HgU.out];refine yT rfl (.tmp 99) (.tmp 101) rfl w.heap.size pv cv i ys rfl HOU.out gU ([]:Lb) rfl HUC.out hi2 HUS.out ?_))
        intro gv cv' w9 vZ hg9
        have HI9:=h_ (HI.out.next (p2:=pr) (c2:=0) HB5.out yaz.out HSZ.out (.inl ⟨HCK.out,rfl⟩) vZ hg9 HGN.out)
        rw [hz0] at HI9
        obtain ⟨yn,HYN⟩:=ez (ys++[([]:Lb)])
        obtain ⟨ln,HLN⟩:=ez (lr.drop wd)
        rw [HYN.out,HLN.out] at HI9
        clear vZ hg9
        go_wp2
        go_roundw
        case rel=>exact ⟨i+1,0,0,cv',pr,some ⟨gv,0,none⟩,ln,yn,by omega,by go_num,by first|rfl|go_num,by go_num,HI9⟩
        case measure=>simp [intOf];omega
       ·have HCK:=h_ hck
        go_wp2_with (first|(rw [HUU.out,HgU.out];at_builtin;refine yT rfl (.tmp 99) (.tmp 101) rfl w.heap.size pv cv i ys rfl HOU.out gU ([]:Lb) rfl HUC.out hi2 HUS.out ?_)|(at_builtin;rw [HUU.out,HgU.out];refine yT rfl (.tmp 99) (.tmp 101) rfl w.heap.size pv cv i ys rfl HOU.out gU ([]:Lb) rfl HUC.out hi2 HUS.out ?_))
        intro gv cv' w9 vZ hg9
        have HI9:=h_ (HI.out.next (p2:=(pr.map fun x=>x.add wd)) (c2:=(cr-wd)) HB5.out yaz.out HSZ.out (.inr ⟨rfl,rfl⟩) vZ hg9 HGN.out)
        obtain ⟨yn,HYN⟩:=ez (ys++[([]:Lb)])
        obtain ⟨ln,HLN⟩:=ez (lr.drop wd)
        rw [HYN.out,HLN.out] at HI9
        clear vZ hg9
        go_wp2
        go_roundw
        case rel=>exact ⟨i+1,(ml-wd),(cr-wd),cv',(pr.map fun x=>x.add wd),some ⟨gv,0,none⟩,ln,yn,by omega,by go_num,by first|rfl|go_num,by go_num,HI9⟩
        case measure=>simp [intOf];omega
     ·have g5:(k==5)=false:=by simpa using h5
      have H5:=h_ h5
      clear h5
      by_cases hsw:ml<wd
      ·have isw:(ml:Int)<(wd:Int):=by omega
       have HX:Hid (yaZ k n lb w (.returned (.tuple #[.slice none 0 0,.int .i64 5])) wr):=h_ ⟨HI.out.below,.inr ⟨(ye2 HI.out.gi hlt GO.out HBI.out).1 (by rw [HML.out,HWD.out];exact hsw),rfl⟩⟩
       go_wp2_with fail
       refine (vQ k _).mono ?_
       rintro e w' ⟨rfl,rfl⟩
       rw [HWD.out]
       go_wp2
       go_ret2
       exact HX.out
      ·have isw:¬ (ml:Int)<(wd:Int):=by omega
       have HSZ:Hid (wd≤ml):=h_ (by omega)
       have HB5:Hid (Be wr wr):=h_ bR
       have HGN:Hid (GI k n lb (lr.drop wd) (ys++[[]]) (i+1)):=h_ (by have h:=(ye2 HI.out.gi hlt GO.out HBI.out).2;rw [HWD.out] at h;exact h)
       go_wp2_with fail
       refine (vQ k _).mono ?_
       rintro e w' ⟨rfl,rfl⟩
       rw [HWD.out]
       have ygy:Hid (wr.ownsRow w.heap.size 9 1 (.slice pv i cv) i (ybH ys)):=h_ (jG HI.out.own HB5.out)
       obtain ⟨gU,HgU⟩:∃ g,Hid (wr.heap.size=g):=⟨_,rfl⟩
       obtain ⟨U,HUU⟩:=ez (wr.alloc (.cells #[.string ⟨([]:Lb).toArray⟩] 9))
       have yaz:Hid (Be wr U):=h_ (by rw [← HUU.out];exact bR.alloc nl _)
       have HOU:Hid (U.ownsRow w.heap.size 9 1 (.slice pv i cv) i (ybH ys)):=h_ (jG ygy.out yaz.out)
       have HUC:Hid (U.cell? ⟨gU,0,none⟩=some (.string ⟨([]:Lb).toArray⟩)):=h_ (by
        rw [← HUU.out,← HgU.out];have:=heap_alloc_new wr (.cells #[.string ⟨([]:Lb).toArray⟩] 9);unfold World.cell?;simp only [this];rfl)
       have HUS:Hid (w.heap.size≤U.heap.size):=h_ (Nat.le_trans HI.out.below.size (Nat.le_trans HB5.out.size yaz.out.size))
       have hi2:i≤100000:=by omega
       have iszm:(wd:Int)≤(ml:Int):=by have:=HSZ.out;omega
       have iszc:(wd:Int)≤(cr:Int):=by have:=HSZ.out;have:=ycK.out;omega
       by_cases hck:cr=wd
       ·have hz0:ml-wd=0:=by have:=HSZ.out;have:=ycK.out;omega
        have HCK:=h_ hck.symm
        go_wp2_with (first|(rw [HUU.out,HgU.out];at_builtin;refine yT rfl (.tmp 99) (.tmp 101) rfl w.heap.size pv cv i ys rfl HOU.out gU ([]:Lb) rfl HUC.out hi2 HUS.out ?_)|(at_builtin;rw [HUU.out,HgU.out];refine yT rfl (.tmp 99) (.tmp 101) rfl w.heap.size pv cv i ys rfl HOU.out gU ([]:Lb) rfl HUC.out hi2 HUS.out ?_))
        intro gv cv' w9 vZ hg9
        have HI9:=h_ (HI.out.next (p2:=pr) (c2:=0) HB5.out yaz.out HSZ.out (.inl ⟨HCK.out,rfl⟩) vZ hg9 HGN.out)
        rw [hz0] at HI9
        obtain ⟨yn,HYN⟩:=ez (ys++[([]:Lb)])
        obtain ⟨ln,HLN⟩:=ez (lr.drop wd)
        rw [HYN.out,HLN.out] at HI9
        clear vZ hg9
        go_wp2
        go_roundw
        case rel=>exact ⟨i+1,0,0,cv',pr,some ⟨gv,0,none⟩,ln,yn,by omega,by go_num,by first|rfl|go_num,by go_num,HI9⟩
        case measure=>simp [intOf];omega
       ·have HCK:=h_ hck
        go_wp2_with (first|(rw [HUU.out,HgU.out];at_builtin;refine yT rfl (.tmp 99) (.tmp 101) rfl w.heap.size pv cv i ys rfl HOU.out gU ([]:Lb) rfl HUC.out hi2 HUS.out ?_)|(at_builtin;rw [HUU.out,HgU.out];refine yT rfl (.tmp 99) (.tmp 101) rfl w.heap.size pv cv i ys rfl HOU.out gU ([]:Lb) rfl HUC.out hi2 HUS.out ?_))
        intro gv cv' w9 vZ hg9
        have HI9:=h_ (HI.out.next (p2:=(pr.map fun x=>x.add wd)) (c2:=(cr-wd)) HB5.out yaz.out HSZ.out (.inr ⟨rfl,rfl⟩) vZ hg9 HGN.out)
        obtain ⟨yn,HYN⟩:=ez (ys++[([]:Lb)])
        obtain ⟨ln,HLN⟩:=ez (lr.drop wd)
        rw [HYN.out,HLN.out] at HI9
        clear vZ hg9
        go_wp2
        go_roundw
        case rel=>exact ⟨i+1,(ml-wd),(cr-wd),cv',(pr.map fun x=>x.add wd),some ⟨gv,0,none⟩,ln,yn,by omega,by go_num,by first|rfl|go_num,by go_num,HI9⟩
        case measure=>simp [intOf];omega
    | true =>
     rw [if_pos rfl] at ybJ
     by_cases h5:k=5
     ·have g5:(k==5)=true:=by rw [h5];rfl
      subst h5
      have HG:=h_ (yta HI.out.gi hlt GO.out HBI.out)
      by_cases h1:ml<1
      ·have i1:(ml:Int)<1:=by omega
       have HX:Hid (yaZ 5 n lb w (.returned (.tuple #[.slice none 0 0,.int .i64 5])) wr):=h_ ⟨HI.out.below,.inr ⟨HG.out.1 (.inl (by rw [HML.out];exact h1)),rfl⟩⟩
       go_wp2_with fail
       refine (vQ 5 _).mono ?_
       rintro e w' ⟨rfl,rfl⟩
       rw [HWD.out]
       go_wp2
       go_ret2
       exact HX.out
      ·have i1:¬ (ml:Int)<1:=by omega
       obtain ⟨b2,o2,s0,e2,hb2,hc2,hs0,hs255⟩:=HI.out.rest.at (k:=0) (by rw [HML.out];omega)
       rw [Nat.add_zero] at hc2
       have HS0:=h_ hs0.out
       subst e2
       clear hb2 hs0
       by_cases h2:ml<1+s0
       ·have i2:(ml:Int)<1+(s0:Int):=by omega
        have HX:Hid (yaZ 5 n lb w (.returned (.tuple #[.slice none 0 0,.int .i64 5])) wr):=h_ ⟨HI.out.below,.inr ⟨HG.out.1 (.inr (by rw [HML.out,HS0.out];exact h2)),rfl⟩⟩
        go_wp2_with fail
        refine (vQ 5 _).mono ?_
        rintro e w' ⟨rfl,rfl⟩
        rw [HWD.out]
        go_wp2
        go_ret2
        exact HX.out
       ·have i2:¬ (ml:Int)<1+(s0:Int):=by omega
        obtain ⟨sz,HSE⟩:=ez (1+s0)
        have hse:1+(s0:Int)=(sz:Int):=by have:=HSE.out;omega
        have HSZ:Hid (sz≤ml):=h_ (by have:=HSE.out;omega)
        have is1:(1:Int)≤(sz:Int):=by omega
        have isc:(sz:Int)≤(cr:Int):=by have:=HSZ.out;have:=ycK.out;omega
        obtain ⟨T,GY⟩:=ez ((lr.drop 1).take s0)
        have HTL:Hid (T.length=sz-1):=h_ (by rw [← GY.out,List.length_take,List.length_drop,HML.out];have:=HSE.out;have:=HSZ.out;omega)
        have HVA:=h_ (fun W=>yf7 ⟨T.toArray⟩ W)
        have HGN:Hid (GI 5 n lb (lr.drop sz) (ys++[T]) (i+1)):=h_ (by have h:=HG.out.2.2;rw [HS0.out,HSE.out,GY.out] at h;exact h)
        have HGV:Hid (num T=none→∀ xs:List Lb,xs.length=n→vN 5 xs=0→vI 5 xs≠lb):=h_ (by have h:=HG.out.2.1;rw [HS0.out,GY.out] at h;exact h)
        obtain ⟨vb,HVB⟩:=ez ((num T).isSome)
        have HVA2:Hid (∀ W,Calls Tryz.prog 118 #[.string ⟨T.toArray⟩] W (Rp (.bool vb) W)):=h_ (fun W=>by
         have h:=HVA.out W
         simp only at h
         rwa [HVB.out] at h)
        clear HVA h1 h2
        by_cases hc1:cr=1
        ·have hs1:sz-1=0:=by have:=HSZ.out;have:=ycK.out;omega
         have hT0:T=[]:=List.eq_nil_of_length_eq_zero (by rw [HTL.out];exact hs1)
         have hcv:(convert 39 9 (.slice (some ⟨b2,o2,none⟩) 0 0)).run Tryz.prog wr=.ok (.string ⟨T.toArray⟩) wr:=by
          rw [hT0]
          exact zP wr _ 0 [] (Bs.nil _ _)
         clear hT0
         have hq1:cr≤1:=by omega
         have hq2:1≤cr:=by omega
         have hq3:sz≤1:=by have:=HSZ.out;have:=ycK.out;omega
         have hq4:1≤sz:=by omega
         have hq5:ml≤1:=by have:=ycK.out;omega
         have hq6:1≤ml:=by have:=HSZ.out;omega
         go_wp2_with fail
         refine (vQ 5 _).mono ?_
         rintro e w' ⟨rfl,rfl⟩
         rw [HWD.out]
         go_wp2_with fail
         refine (HVA2.out _).mono ?_
         rintro e w5 ⟨rfl,hb5⟩
         have HB5:=h_ hb5
         clear hb5 hcv hs1 hc1
         cases vb with
         | false =>
          have HX:Hid (yaZ 5 n lb w (.returned (.tuple #[.slice none 0 0,.int .i64 5])) w5):=h_ ⟨tr HI.out.below HB5.out,.inr ⟨HGV.out (by have h:=HVB.out;simpa using h),rfl⟩⟩
          go_wp2
          go_ret2
          exact HX.out
         | true =>
          have ygy:Hid (w5.ownsRow w.heap.size 9 1 (.slice pv i cv) i (ybH ys)):=h_ (jG HI.out.own HB5.out)
          obtain ⟨gU,HgU⟩:∃ g,Hid (w5.heap.size=g):=⟨_,rfl⟩
          obtain ⟨U,HUU⟩:=ez (w5.alloc (.cells #[.string ⟨T.toArray⟩] 9))
          have yaz:Hid (Be w5 U):=h_ (by rw [← HUU.out];exact bR.alloc nl _)
          have HOU:Hid (U.ownsRow w.heap.size 9 1 (.slice pv i cv) i (ybH ys)):=h_ (jG ygy.out yaz.out)
          have HUC:Hid (U.cell? ⟨gU,0,none⟩=some (.string ⟨T.toArray⟩)):=h_ (by
           rw [← HUU.out,← HgU.out];have:=heap_alloc_new w5 (.cells #[.string ⟨T.toArray⟩] 9);unfold World.cell?;simp only [this];rfl)
          have HUS:Hid (w.heap.size≤U.heap.size):=h_ (Nat.le_trans HI.out.below.size (Nat.le_trans HB5.out.size yaz.out.size))
          have hi2:i≤100000:=by omega
          have iszm:(sz:Int)≤(ml:Int):=by have:=HSZ.out;omega
          have iszc:(sz:Int)≤(cr:Int):=by have:=HSZ.out;have:=ycK.out;omega
          by_cases hck:cr=sz
          ·have hz0:ml-sz=0:=by have:=HSZ.out;have:=ycK.out;omega
           have HCK:=h_ hck.symm
           go_wp2_with (first|(rw [HUU.out,HgU.out];at_builtin;refine yT rfl (.tmp 99) (.tmp 101) rfl w.heap.size pv cv i ys rfl HOU.out gU T rfl HUC.out hi2 HUS.out ?_)|(at_builtin;rw [HUU.out,HgU.out];refine yT rfl (.tmp 99) (.tmp 101) rfl w.heap.size pv cv i ys rfl HOU.out gU T rfl HUC.out hi2 HUS.out ?_))
           intro gv cv' w9 vZ hg9
           have HI9:=h_ (HI.out.next (p2:=some ⟨b2,o2,none⟩) (c2:=0) HB5.out yaz.out HSZ.out (.inl ⟨HCK.out,rfl⟩) vZ hg9 HGN.out)
           rw [hz0] at HI9
           obtain ⟨yn,HYN⟩:=ez (ys++[T])
           obtain ⟨ln,HLN⟩:=ez (lr.drop sz)
           rw [HYN.out,HLN.out] at HI9
           clear vZ hg9
           go_wp2
           go_roundw
           case rel=>exact ⟨i+1,0,0,cv',some ⟨b2,o2,none⟩,some ⟨gv,0,none⟩,ln,yn,by omega,by go_num,by first|rfl|go_num,by go_num,HI9⟩
           case measure=>simp [intOf];omega
          ·exact absurd (show cr=sz by omega) hck
        ·have hcv:(convert 39 9 (.slice (some ⟨b2,o2+1,none⟩) (sz-1) (cr-1))).run Tryz.prog wr=.ok (.string ⟨T.toArray⟩) wr:=by
          rw [← HTL.out]
          refine zP wr _ (cr-1) T ?_
          by_cases hd:1<lr.length
          ·have h:=yhV HI.out.rest hd
           rw [← GY.out]
           exact ycd h s0
          ·exact .inl (by rw [← GY.out,List.length_take,List.length_drop];omega)
         go_wp2_with fail
         refine (vQ 5 _).mono ?_
         rintro e w' ⟨rfl,rfl⟩
         rw [HWD.out]
         go_wp2_with fail
         refine (HVA2.out _).mono ?_
         rintro e w5 ⟨rfl,hb5⟩
         have HB5:=h_ hb5
         clear hb5 hcv
         cases vb with
         | false =>
          have HX:Hid (yaZ 5 n lb w (.returned (.tuple #[.slice none 0 0,.int .i64 5])) w5):=h_ ⟨tr HI.out.below HB5.out,.inr ⟨HGV.out (by have h:=HVB.out;simpa using h),rfl⟩⟩
          go_wp2
          go_ret2
          exact HX.out
         | true =>
          have ygy:Hid (w5.ownsRow w.heap.size 9 1 (.slice pv i cv) i (ybH ys)):=h_ (jG HI.out.own HB5.out)
          obtain ⟨gU,HgU⟩:∃ g,Hid (w5.heap.size=g):=⟨_,rfl⟩
          obtain ⟨U,HUU⟩:=ez (w5.alloc (.cells #[.string ⟨T.toArray⟩] 9))
          have yaz:Hid (Be w5 U):=h_ (by rw [← HUU.out];exact bR.alloc nl _)
          have HOU:Hid (U.ownsRow w.heap.size 9 1 (.slice pv i cv) i (ybH ys)):=h_ (jG ygy.out yaz.out)
          have HUC:Hid (U.cell? ⟨gU,0,none⟩=some (.string ⟨T.toArray⟩)):=h_ (by
           rw [← HUU.out,← HgU.out];have:=heap_alloc_new w5 (.cells #[.string ⟨T.toArray⟩] 9);unfold World.cell?;simp only [this];rfl)
          have HUS:Hid (w.heap.size≤U.heap.size):=h_ (Nat.le_trans HI.out.below.size (Nat.le_trans HB5.out.size yaz.out.size))
          have hi2:i≤100000:=by omega
          have iszm:(sz:Int)≤(ml:Int):=by have:=HSZ.out;omega
          have iszc:(sz:Int)≤(cr:Int):=by have:=HSZ.out;have:=ycK.out;omega
          by_cases hck:cr=sz
          ·have hz0:ml-sz=0:=by have:=HSZ.out;have:=ycK.out;omega
           have HCK:=h_ hck.symm
           go_wp2_with (first|(rw [HUU.out,HgU.out];at_builtin;refine yT rfl (.tmp 99) (.tmp 101) rfl w.heap.size pv cv i ys rfl HOU.out gU T rfl HUC.out hi2 HUS.out ?_)|(at_builtin;rw [HUU.out,HgU.out];refine yT rfl (.tmp 99) (.tmp 101) rfl w.heap.size pv cv i ys rfl HOU.out gU T rfl HUC.out hi2 HUS.out ?_))
           intro gv cv' w9 vZ hg9
           have HI9:=h_ (HI.out.next (p2:=some ⟨b2,o2,none⟩) (c2:=0) HB5.out yaz.out HSZ.out (.inl ⟨HCK.out,rfl⟩) vZ hg9 HGN.out)
           rw [hz0] at HI9
           obtain ⟨yn,HYN⟩:=ez (ys++[T])
           obtain ⟨ln,HLN⟩:=ez (lr.drop sz)
           rw [HYN.out,HLN.out] at HI9
           clear vZ hg9
           go_wp2
           go_roundw
           case rel=>exact ⟨i+1,0,0,cv',some ⟨b2,o2,none⟩,some ⟨gv,0,none⟩,ln,yn,by omega,by go_num,by first|rfl|go_num,by go_num,HI9⟩
           case measure=>simp [intOf];omega
          ·have HCK:=h_ hck
           go_wp2_with (first|(rw [HUU.out,HgU.out];at_builtin;refine yT rfl (.tmp 99) (.tmp 101) rfl w.heap.size pv cv i ys rfl HOU.out gU T rfl HUC.out hi2 HUS.out ?_)|(at_builtin;rw [HUU.out,HgU.out];refine yT rfl (.tmp 99) (.tmp 101) rfl w.heap.size pv cv i ys rfl HOU.out gU T rfl HUC.out hi2 HUS.out ?_))
           intro gv cv' w9 vZ hg9
           have HI9:=h_ (HI.out.next (p2:=some ⟨b2,o2+sz,none⟩) (c2:=(cr-sz)) HB5.out yaz.out HSZ.out (.inr ⟨by rw [Option.map_some,add_lit],rfl⟩) vZ hg9 HGN.out)
           obtain ⟨yn,HYN⟩:=ez (ys++[T])
           obtain ⟨ln,HLN⟩:=ez (lr.drop sz)
           rw [HYN.out,HLN.out] at HI9
           clear vZ hg9
           go_wp2
           go_roundw
           case rel=>exact ⟨i+1,(ml-sz),(cr-sz),cv',some ⟨b2,o2+sz,none⟩,some ⟨gv,0,none⟩,ln,yn,by omega,by go_num,by first|rfl|go_num,by go_num,HI9⟩
           case measure=>simp [intOf];omega
     ·have g5:(k==5)=false:=by simpa using h5
      have H5:=h_ h5
      clear h5
      by_cases hsw:ml<wd
      ·have isw:(ml:Int)<(wd:Int):=by omega
       have HX:Hid (yaZ k n lb w (.returned (.tuple #[.slice none 0 0,.int .i64 5])) wr):=h_ ⟨HI.out.below,.inr ⟨(yp7 HI.out.gi hlt GO.out HBI.out HK1.out.1 (by have:=HK1.out.2;have:=H5.out;omega)).1 (by rw [HML.out,HWD.out];exact hsw),rfl⟩⟩
       go_wp2_with fail
       refine (vQ k _).mono ?_
       rintro e w' ⟨rfl,rfl⟩
       rw [HWD.out]
       go_wp2
       go_ret2
       exact HX.out
      ·have isw:¬ (ml:Int)<(wd:Int):=by omega
       have HSZ:Hid (wd≤ml):=h_ (by omega)
       have iwc:(wd:Int)≤(cr:Int):=by have:=ycK.out;omega
       obtain ⟨X,HXX⟩:=ez (lr.take wd)
       have HXL:Hid (X.length=wd):=h_ (by rw [← HXX.out,List.length_take,HML.out];omega)
       obtain ⟨N,HN⟩:=ez (nb X)
       have HRD:=h_ (vC pr cr X wr (by rw [HXL.out,← HWD.out];exact ybs k) (by rw [← HXX.out];exact ycd HI.out.rest wd))
       rw [HXL.out,HN.out] at HRD
       have hw:wd=1∨wd=2∨wd=4∨wd=8:=by
        have h:k=1∨k=2∨k=3∨k=4:=by have:=HK1.out;have:=H5.out;omega
        rw [← HWD.out]
        rcases h with h|h|h|h
        ·rw [h];exact .inl rfl
        ·rw [h];exact .inr (.inl rfl)
        ·rw [h];exact .inr (.inr (.inl rfl))
        ·rw [h];exact .inr (.inr (.inr rfl))
       have HSG:=h_ (yks wd N wr hw (h_ (by rw [← HN.out,← HXL.out];exact GQ X)))
       obtain ⟨T,GY⟩:=ez (Lib.itoa (sgI wd N))
       rw [GY.out] at HSG
       have HGN:Hid (GI k n lb (lr.drop wd) (ys++[T]) (i+1)):=h_ (by have h:=(yp7 HI.out.gi hlt GO.out HBI.out HK1.out.1 (by have:=HK1.out.2;have:=H5.out;omega)).2;rw [HWD.out,HXX.out,HN.out,GY.out] at h;exact h)
       clear hw
       go_wp2_with fail
       refine (vQ k _).mono ?_
       rintro e w' ⟨rfl,rfl⟩
       rw [HWD.out]
       go_wp2_with fail
       refine (HRD.out).mono ?_
       rintro e w' ⟨rfl,rfl⟩
       go_wp2_with fail
       refine (HSG.out).mono ?_
       rintro e w5 ⟨rfl,hb5⟩
       have HB5:=h_ hb5
       clear hb5
       have ygy:Hid (w5.ownsRow w.heap.size 9 1 (.slice pv i cv) i (ybH ys)):=h_ (jG HI.out.own HB5.out)
       obtain ⟨gU,HgU⟩:∃ g,Hid (w5.heap.size=g):=⟨_,rfl⟩
       obtain ⟨U,HUU⟩:=ez (w5.alloc (.cells #[.string ⟨T.toArray⟩] 9))
       have yaz:Hid (Be w5 U):=h_ (by rw [← HUU.out];exact bR.alloc nl _)
       have HOU:Hid (U.ownsRow w.heap.size 9 1 (.slice pv i cv) i (ybH ys)):=h_ (jG ygy.out yaz.out)
       have HUC:Hid (U.cell? ⟨gU,0,none⟩=some (.string ⟨T.toArray⟩)):=h_ (by
        rw [← HUU.out,← HgU.out];have:=heap_alloc_new w5 (.cells #[.string ⟨T.toArray⟩] 9);unfold World.cell?;simp only [this];rfl)
       have HUS:Hid (w.heap.size≤U.heap.size):=h_ (Nat.le_trans HI.out.below.size (Nat.le_trans HB5.out.size yaz.out.size))
       have hi2:i≤100000:=by omega
       have iszm:(wd:Int)≤(ml:Int):=by have:=HSZ.out;omega
       have iszc:(wd:Int)≤(cr:Int):=by have:=HSZ.out;have:=ycK.out;omega
       by_cases hck:cr=wd
       ·have hz0:ml-wd=0:=by have:=HSZ.out;have:=ycK.out;omega
        have HCK:=h_ hck.symm
        go_wp2_with (first|(rw [HUU.out,HgU.out];at_builtin;refine yT rfl (.tmp 99) (.tmp 101) rfl w.heap.size pv cv i ys rfl HOU.out gU T rfl HUC.out hi2 HUS.out ?_)|(at_builtin;rw [HUU.out,HgU.out];refine yT rfl (.tmp 99) (.tmp 101) rfl w.heap.size pv cv i ys rfl HOU.out gU T rfl HUC.out hi2 HUS.out ?_))
        intro gv cv' w9 vZ hg9
        have HI9:=h_ (HI.out.next (p2:=pr) (c2:=0) HB5.out yaz.out HSZ.out (.inl ⟨HCK.out,rfl⟩) vZ hg9 HGN.out)
        rw [hz0] at HI9
        obtain ⟨yn,HYN⟩:=ez (ys++[T])
        obtain ⟨ln,HLN⟩:=ez (lr.drop wd)
        rw [HYN.out,HLN.out] at HI9
        clear vZ hg9
        go_wp2
        go_roundw
        case rel=>exact ⟨i+1,0,0,cv',pr,some ⟨gv,0,none⟩,ln,yn,by omega,by go_num,by first|rfl|go_num,by go_num,HI9⟩
        case measure=>simp [intOf];omega
       ·have HCK:=h_ hck
        go_wp2_with (first|(rw [HUU.out,HgU.out];at_builtin;refine yT rfl (.tmp 99) (.tmp 101) rfl w.heap.size pv cv i ys rfl HOU.out gU T rfl HUC.out hi2 HUS.out ?_)|(at_builtin;rw [HUU.out,HgU.out];refine yT rfl (.tmp 99) (.tmp 101) rfl w.heap.size pv cv i ys rfl HOU.out gU T rfl HUC.out hi2 HUS.out ?_))
        intro gv cv' w9 vZ hg9
        have HI9:=h_ (HI.out.next (p2:=(pr.map fun x=>x.add wd)) (c2:=(cr-wd)) HB5.out yaz.out HSZ.out (.inr ⟨rfl,rfl⟩) vZ hg9 HGN.out)
        obtain ⟨yn,HYN⟩:=ez (ys++[T])
        obtain ⟨ln,HLN⟩:=ez (lr.drop wd)
        rw [HYN.out,HLN.out] at HI9
        clear vZ hg9
        go_wp2
        go_roundw
        case rel=>exact ⟨i+1,(ml-wd),(cr-wd),cv',(pr.map fun x=>x.add wd),some ⟨gv,0,none⟩,ln,yn,by omega,by go_num,by first|rfl|go_num,by go_num,HI9⟩
        case measure=>simp [intOf];omega
   ·obtain rfl:i=n:=by omega
    have ilt:¬ (i:Int)<(i:Int):=by omega
    have HYS:Hid (∀ xs:List Lb,xs.length=i→vN k xs=0→vI k xs=lb→ys=xs):=h_ (fun xs hx hz hp=>by
     have h:=(HI.out.gi xs hx hz hp).2
     rwa [List.take_of_length_le (by omega)] at h)
    have HYL:=h_ HI.out.ylen
    have HYR:Hid (Ss wr pv ys):=h_ (ylX HI.out.own HI.out.ylen)
    obtain ⟨z,HZ⟩:=ez (vN k ys)
    by_cases hz:z=0
    ·subst hz
     have HPT:=h_ (yn6 k pv cv i ys wr HYL hn HYR.out HZ)
     go_wp2_with fail
     refine (HPT.out).mono ?_
     rintro e w2 ⟨v2,rfl,hg2⟩
     obtain ⟨p3,c3,rfl,yuD,hc2⟩:=zA hg2.own
     have vK:Hid (Be w w2):=h_ (tr HI.out.below hg2.below)
     have HS2:Hid (Ss w2 pv ys):=h_ (HYR.out.below hg2.below)
     have yuE:=zP w2 p3 c3 (vI k ys) yuD
     have ylF:=zP w2 _ c lb (HB.out.below vK.out)
     by_cases heq:vI k ys=lb
     ·rw [heq] at yuE ⊢
      obtain ⟨X,HX⟩:∃ X:ByteArray,Hid (⟨lb.toArray⟩=X):=⟨_,rfl⟩
      rw [hm.out,HX.out] at yuE ylF
      rw [hm.out]
      have HR:Hid (yaZ k i lb w (.returned (.tuple #[.slice pv i cv,.int .i64 0])) w2):=h_ ⟨vK.out,.inl ⟨ys,pv,cv,HYL.out,HZ.out,heq,HYS.out,rfl,HS2.out⟩⟩
      clear hg2 yuD heq
      go_wp2
      go_ret2
      exact HR.out
     ·have h3:=ypP heq
      obtain ⟨X,HX⟩:∃ X:ByteArray,Hid (⟨lb.toArray⟩=X):=⟨_,rfl⟩
      obtain ⟨Y,HY⟩:∃ Y:ByteArray,Hid (⟨(vI k ys).toArray⟩=Y):=⟨_,rfl⟩
      obtain ⟨m2,HM2⟩:=ez ((vI k ys).length)
      rw [hm.out,HX.out] at ylF
      rw [HM2.out,HY.out] at yuE
      rw [HM2.out]
      rw [HX.out,HY.out] at h3
      have h4:¬ Y=X:=h3
      have h5:(Y.toList==X.toList)=false:=by
       rw [Bool.eq_false_iff]
       intro e
       rw [beq_iff_eq] at e
       refine h4 ?_
       rw [← HX.out,← HY.out] at e ⊢
       simp at e
       rw [e]
      have HR:Hid (yaZ k i lb w (.returned (.tuple #[.slice none 0 0,.int .i64 5])) w2):=h_ ⟨vK.out,.inr ⟨fun xs hx hz hp=>heq (by rw [HYS.out xs hx hz hp];exact hp),rfl⟩⟩
      clear hg2 yuD heq h3
      go_wp2
      go_ret2
      exact HR.out
    ·have HPT:=h_ (yqR k pv cv i ys wr HYL hn HYR.out z HZ hz)
     have gz:(z != 0)=true:=by rw [bne_iff_ne];exact hz
     have HZN:=h_ hz
     clear hz
     go_wp2_with fail
     refine (HPT.out).mono ?_
     rintro e w2 ⟨rfl,hb2⟩
     have HR:Hid (yaZ k i lb w (.returned (.tuple #[.slice none 0 0,.int .i64 5])) w2):=h_ ⟨tr HI.out.below hb2,.inr ⟨fun xs hx hz hp=>HZN.out (by rw [← HZ.out,HYS.out xs hx hz hp];exact hz),rfl⟩⟩
     clear hb2
     go_wp2
     go_ret2
     exact HR.out
end
end Go.Proofs.YtgepehlpjpccaaaGreatDoor
