/- Contracts. -/
import Derived.Test.YtgepehlpjpccaaaGreatDoorKB
set_option maxHeartbeats 4000000
set_option maxRecDepth 100000
namespace Go.Proofs.YtgepehlpjpccaaaGreatDoor
section
open Go.RowKit
open Go.Lib
def orB (c:UInt8) (r:Nat):UInt8:=UInt8.ofNat (c.toNat ||| 2^r)
theorem yes (c:UInt8) {r:Nat} (h:r<8):(orB c r).toNat=c.toNat ||| 2^r:=by
 unfold orB
 have h1:c.toNat<2^8:=c.toNat_lt
 have h2:2^r<2^8:=Nat.pow_lt_pow_right (by omega) h
 rw [UInt8.toNat_ofNat',Nat.mod_eq_of_lt (Nat.or_lt_two_pow h1 h2)]
def GF (xs:List Lb) (P:Nat):Nat→Lb
 | 0=>List.replicate P 0
 | i+1=>if xs.getD i []=[] then GF xs P i else (GF xs P i).set (i/8) (orB ((GF xs P i).getD (i/8) 0) (i%8))
theorem jW (xs:List Lb) (P:Nat):∀ i,(GF xs P i).length=P
 | 0=>by simp [GF]
 | i+1=>by
  rw [GF]
  split
  ·exact jW xs P i
  ·rw [List.length_set];exact jW xs P i
def els (k:Int) (xs:List Lb) (i:Nat):Lb:=(xs.take i).flatMap (jD k)
theorem yet {k:Int} {x:Lb} (h:zZ k x=true):(jD k x).length≤83:=by
 unfold jD
 have h1:=ycc h
 have h2:=ybs k
 split
 ·split
  ·simp
  ·rw [List.length_cons];omega
 ·rw [zD];omega
theorem yny {xs:List Lb} {i:Nat} (h:i<xs.length):xs.take (i+1)=xs.take i++[xs.getD i []]:=by
 rw [List.take_succ_eq_append_getElem h,List.getD_eq_getElem?_getD,List.getElem?_eq_getElem h];rfl
theorem yd4 {k:Int} {xs:List Lb} {i:Nat} (h:i<xs.length):els k xs (i+1)=els k xs i++jD k (xs.getD i []):=by
 unfold els
 rw [yny h,List.flatMap_append];simp
theorem yid {k:Int} {xs:List Lb} (hf:∀ x ∈ xs,zZ k x=true):∀ i,i≤xs.length→(els k xs i).length≤83*i
 | 0,_=>by simp [els]
 | i+1,h=>by
  have h1:=yid hf i (by omega)
  rw [yd4 (by omega),List.length_append]
  have h2:=yet (hf (xs.getD i []) (by rw [gD (by omega)];exact List.getElem_mem _))
  omega
def ybm (k:Int) (xs:List Lb) (i:Nat):Lb:=GF xs ((xs.length+7)/8) i++els k xs i
def vI (k:Int) (xs:List Lb):Lb:=ybm k xs xs.length
structure PutG (w:World) (L:Lb) (wr:World) (v:Value):Prop where
 own:wr.ownsRow w.heap.size 5 1 v L.length (zN L)
 below:Be w wr
theorem yal {W:World} {B n:Nat} {v:Value} {xs:List Value} {g0:Nat} (h:W.ownsRow B 5 1 v n xs) (e:v.ownBlock=some g0):B≤g0:=by
 obtain ⟨-,⟨rfl,-⟩|⟨g,cap,cur,rfl,hg,-⟩⟩:=h
 ·cases e
 ·cases e;exact hg
theorem PutG.next {w W w':World} {v v':Value} {L L':Lb} (h:PutG w L W v) (hg:Gro w.heap.size W v L' w' v'):PutG w L' w' v' :=
 ⟨hg.own,h.below.grown hg.grown h.below.size (fun _ e=>yal h.own e)⟩
theorem yqn (P:Nat):zN (List.replicate P 0)=(madeCells #[Value.int .u8 0] P).toList:=by
 apply List.ext_getElem
 ·simp [zN,madeCells]
 ·intro i h1 h2
  simp [zN,madeCells,Nat.mod_one]
theorem ytR (k:Int) (p:Oa) (c n:Nat) (xs:List Lb) (w:World) (hx:Hid (xs.length=n)) (hn:n≤4096) (hs:Ss w p xs) (he:Env w) (z:Int) (HZ:Hid (vN k xs=z)) (hz:z≠0) :
  Calls Tryz.prog 34 #[.int .i64 k,.slice p n c] w (Rp (.tuple #[.slice none 0 0,.int .i64 z]) w):=by
 have HC:=h_ (yf1 k p c n xs w hx hn hs he)
 rw [HZ.out] at HC
 clear hs he
 have gz:(z != 0)=true:=by rw [bne_iff_ne];exact hz
 go_in
 go_wp2_with fail
 refine (HC.out).mono ?_
 rintro e w1 ⟨rfl,hb1⟩
 have yY:=h_ hb1
 clear hb1
 go_wp2
 go_ret2
 exact ⟨rfl,yY.out⟩
theorem yj5 (k:Int) (p:Oa) (c n:Nat) (xs:List Lb) (w:World) (hx:Hid (xs.length=n)) (hn:n≤4096) (hs:Ss w p xs) (he:Env w) (HZ:Hid (vN k xs=0)) :
  Calls Tryz.prog 34 #[.int .i64 k,.slice p n c] w fun e w'=>∃ v,e=.returned (.tuple #[v,.int .i64 0])∧PutG w (vI k xs) w' v:=by
 have HS:=h_ hs
 have HE:=h_ he
 have HC:=h_ (yf1 k p c n xs w hx hn hs he)
 rw [HZ.out] at HC
 clear hs he
 have hk:isT k=true∧xs.all (zZ k)=true:=by
  have h:=HZ.out
  unfold vN at h
  by_cases h1:isT k=false
  ·rw [if_pos h1] at h;cases h
  ·rw [if_neg h1] at h
   by_cases h2:xs.all (zZ k)=false
   ·rw [if_pos h2] at h;cases h
   ·exact ⟨by simpa using h1,by simpa using h2⟩
 have HK1:Hid (1≤k∧k≤5):=h_ (by
  have h:=hk.1
  unfold isT at h
  rw [Bool.and_eq_true,decide_eq_true_eq,decide_eq_true_eq] at h
  exact h)
 have HFA:Hid (∀ x ∈ xs,zZ k x=true):=h_ (List.all_eq_true.1 hk.2)
 obtain ⟨P,GO⟩:=ez ((n+7)/8)
 have ysn:Hid ((xs.length+7)/8=P):=h_ (by rw [hx.out];exact GO.out)
 have hP:P≤512:=by have:=GO.out;omega
 have hPi:((n:Int)+7)/8=(P:Int):=by have:=GO.out;omega
 have hni:(n:Int)≤4096:=by omega
 have HPR:=h_ (fun W=>uM n hni W)
 rw [hPi] at HPR
 obtain ⟨i0,hi,hz0,hz1,hz2⟩:=info_parts uF
 clear hk hPi
 go_in
 go_wp2_with fail
 refine (HC.out).mono ?_
 rintro e w1 ⟨rfl,hb1⟩
 have yY:=h_ hb1
 clear hb1
 go_wp2_with fail
 refine (HPR.out _).mono ?_
 rintro e w' ⟨rfl,rfl⟩
 go_wp2_with (at_make;refine wpList_make_full _ rfl _ _ 39 rfl w.heap.size 5 i0 (.int .u8 0) 1 Tryz.underlying39 hi hz0 hz1 _ _ _ _ P rfl rfl (by rfl) (by rfl) ?b2 ?b3 yY.out.size ?_)
 case b2=>rw [hz2];omega
 case b3=>unfold maxLen;omega
 intro w2 yP zB
 have HP0:Hid (PutG w (ybm k xs 0) w2 (.slice (some ⟨w1.heap.size,0,none⟩) P P)):=h_ (by
  have e:ybm k xs 0=List.replicate P 0:=by unfold ybm els;rw [ysn.out];simp [GF]
  rw [e]
  refine ⟨?_,yY.out.grown zB yY.out.size (fun _ h=>by cases h)⟩
  rw [yqn,List.length_replicate]
  exact yP)
 clear yP zB
 go_wp2
 go_loopw [7,22] (fun v iv wr=>∃ i:Nat,i≤n∧iv=.int .i64 i∧Hid (PutG w (ybm k xs i) wr v)) (fun _ iv _=>n-(intOf iv).toNat)
 case atStart=>exact ⟨0,Nat.zero_le _,rfl,HP0⟩
 case round =>
  obtain ⟨i,hi9,rfl,HK⟩:=hrel
  have ii:(i:Int)≤(n:Int):=by omega
  by_cases hlt:i<n
  ·have ilt:(i:Int)<(n:Int):=by omega
   have hil:i<xs.length:=by rw [hx.out];exact hlt
   obtain ⟨b1,o1,x,e1,hb1,hc1,hxx⟩:=(HS.out.below HK.out.below).at hil
   subst e1
   have HF:Hid (zZ k x=true):=h_ (HFA.out x (by rw [← hxx.out,List.getD_eq_getElem?_getD,List.getElem?_eq_getElem hil];exact List.getElem_mem _))
   have HEL:Hid (P+(els k xs i).length≤100000000):=h_ (by have:=yid HFA.out i (by omega);omega)
   have HNX:Hid (ybm k xs (i+1)=GF xs P (i+1)++(els k xs i++jD k x)):=h_ (by
    unfold ybm;rw [yd4 hil,hxx.out,ysn.out])
   have HCU:Hid (ybm k xs i=GF xs P i++els k xs i):=h_ (by unfold ybm;rw [ysn.out])
   by_cases hxe:x=[]
   ·subst hxe
    have HP1:Hid (PutG w (GF xs P (i+1)++els k xs i) wr u7):=h_ (by
     rw [GF,if_pos hxx.out,← HCU.out];exact HK.out)
    clear hil hb1
    by_cases h5:k=5
    ·have g5:(k==5)=true:=by simpa using h5
     have H5:=h_ h5
     clear h5
     have HA:Hid (Calls Tryz.prog 76 #[u7,.string ⟨#[]⟩] wr (yhJ w.heap.size wr u7 (ybm k xs (i+1)))):=h_ (by
      have:=yc7 w.heap.size u7 (GF xs P (i+1)++els k xs i) [] wr (ycc HF.out) (by rw [List.length_append,jW];have:=HEL.out;omega) HP1.out.below.size HP1.out.own
      rw [HNX.out]
      unfold jD
      rw [if_pos H5.out,← List.append_assoc]
      exact this)
     go_wp2_with fail
     refine (HA.out).mono ?_
     rintro e w3 ⟨v3,rfl,hg3⟩
     have HP3:=h_ (HP1.out.next hg3)
     clear hg3
     go_wp2
     go_roundw
     case rel=>exact ⟨i+1,by omega,by go_num,HP3⟩
     case measure=>simp [intOf];omega
    ·have g5:(k==5)=false:=by simpa using h5
     have H5:=h_ h5
     clear h5
     have HA:Hid (Calls Tryz.prog 77 #[u7,.string ⟨#[]⟩,.int .i64 (zY k:Int)] wr (yhJ w.heap.size wr u7 (ybm k xs (i+1)))):=h_ (by
      have:=ybL w.heap.size u7 k (GF xs P (i+1)++els k xs i) [] wr HF.out HK1.out.1 (by have:=HK1.out.2;have:=H5.out;omega) (by rw [List.length_append,jW];have:=HEL.out;omega) HP1.out.below.size HP1.out.own (HE.out.below HP1.out.below)
      rw [HNX.out,← List.append_assoc]
      exact this)
     go_wp2_with fail
     refine (yau k _).mono ?_
     rintro e w' ⟨rfl,rfl⟩
     go_wp2_with fail
     refine (HA.out).mono ?_
     rintro e w3 ⟨v3,rfl,hg3⟩
     have HP3:=h_ (HP1.out.next hg3)
     clear hg3
     go_wp2
     go_roundw
     case rel=>exact ⟨i+1,by omega,by go_num,HP3⟩
     case measure=>simp [intOf];omega
   ·have hxb:x.isEmpty=false:=by
     cases x with
     | nil=>exact absurd rfl hxe
     | cons=>rfl
    have hi8:i/8<P:=by have:=GO.out;omega
    obtain ⟨j,HJ⟩:=ez (i/8)
    obtain ⟨r,HR⟩:=ez (i%8)
    have hr8:r<8:=by have:=HR.out;omega
    rw [HJ.out] at hi8
    have hjl:j<(ybm k xs i).length:=by rw [HCU.out,List.length_append,jW];omega
    obtain ⟨g,cap,hv5,hcap,hg,hgl,zS,vW,GZ⟩:=yat HK.out.own (by omega)
    subst hv5
    have gc:=zS j hjl
    have gf:=vW j
    obtain ⟨M,HM⟩:=ez ((ybm k xs i).length)
    rw [HM.out] at hjl GZ HK ⊢
    obtain ⟨c0,HC0⟩:=ez ((ybm k xs i).getD j 0)
    rw [HC0.out] at gc
    obtain ⟨y,HY⟩:=ez (orB c0 r)
    have hor:bits .or .u8 (c0.toNat:Int) (2^r%256)=((y.toNat:Nat):Int):=by
     have h2:2^r<2^8:=Nat.pow_lt_pow_right (by omega) hr8
     have e:(2:Int)^r%256=((2^r:Nat):Int):=by
      have e0:(2:Int)^r=((2^r:Nat):Int):=by simp
      have h3:2^r<256:=h2
      rw [e0]
      generalize 2^r=t at h3
      omega
     rw [e,u8_or_nat _ _ c0.toNat_lt h2,← HY.out,yes c0 hr8]
    obtain ⟨W1,vA⟩:=ez ((wr.setCell ⟨g,j,none⟩ (.int .u8 (y.toNat:Int))).drew)
    have HP1:Hid (PutG w (GF xs P (i+1)++els k xs i) W1 (.slice (some ⟨g,0,none⟩) M cap)):=h_ (by
     have e1:(ybm k xs i).set j y=GF xs P (i+1)++els k xs i:=by
      have hjs:j<(GF xs P i).length:=by rw [jW];exact hi8
      rw [HCU.out,List.set_append_left _ _ hjs,GF,if_neg (by rw [hxx.out];exact hxe),HJ.out,HR.out,← HY.out,← HC0.out,HCU.out]
      congr 3
      rw [List.getD_eq_getElem?_getD,List.getD_eq_getElem?_getD,List.getElem?_append_left hjs]
     have e2:(GF xs P (i+1)++els k xs i).length=M:=by rw [← e1,List.length_set,HM.out]
     refine ⟨?_,?_⟩
     ·rw [e2,← e1,← vA.out];exact GZ j y hjl
     ·rw [← vA.out];exact (HK.out.below.setCell hg _).drew)
    have ijM:(j:Int)<(M:Int):=by omega
    have ij5:(j:Int)≤512:=by omega
    have hdi:(i:Int)/8=(j:Int):=by have:=HJ.out;omega
    have hmi:(i:Int)%8=(r:Int):=by have:=HR.out;omega
    clear hil hb1
    go_wp2_with fail
    go_region
    rw [vA.out]
    clear hor gc gf zS vW GZ hdi hmi
    by_cases h5:k=5
    ·have g5:(k==5)=true:=by simpa using h5
     have H5:=h_ h5
     clear h5
     have HA:Hid (Calls Tryz.prog 76 #[(.slice (some ⟨g,0,none⟩) M cap),.string ⟨x.toArray⟩] W1 (yhJ w.heap.size W1 (.slice (some ⟨g,0,none⟩) M cap) (ybm k xs (i+1)))):=h_ (by
      have:=yc7 w.heap.size (.slice (some ⟨g,0,none⟩) M cap) (GF xs P (i+1)++els k xs i) x W1 (ycc HF.out) (by rw [List.length_append,jW];have:=HEL.out;omega) HP1.out.below.size HP1.out.own
      rw [HNX.out]
      unfold jD
      rw [if_pos H5.out,← List.append_assoc]
      exact this)
     go_wp2_with fail
     refine (HA.out).mono ?_
     rintro e w3 ⟨v3,rfl,hg3⟩
     have HP3:=h_ (HP1.out.next hg3)
     clear hg3
     go_wp2
     go_roundw
     case rel=>exact ⟨i+1,by omega,by go_num,HP3⟩
     case measure=>simp [intOf];omega
    ·have g5:(k==5)=false:=by simpa using h5
     have H5:=h_ h5
     clear h5
     have HA:Hid (Calls Tryz.prog 77 #[(.slice (some ⟨g,0,none⟩) M cap),.string ⟨x.toArray⟩,.int .i64 (zY k:Int)] W1 (yhJ w.heap.size W1 (.slice (some ⟨g,0,none⟩) M cap) (ybm k xs (i+1)))):=h_ (by
      have:=ybL w.heap.size (.slice (some ⟨g,0,none⟩) M cap) k (GF xs P (i+1)++els k xs i) x W1 HF.out HK1.out.1 (by have:=HK1.out.2;have:=H5.out;omega) (by rw [List.length_append,jW];have:=HEL.out;omega) HP1.out.below.size HP1.out.own (HE.out.below HP1.out.below)
      rw [HNX.out,← List.append_assoc]
      exact this)
     go_wp2_with fail
     refine (yau k _).mono ?_
     rintro e w' ⟨rfl,rfl⟩
     go_wp2_with fail
     refine (HA.out).mono ?_
     rintro e w3 ⟨v3,rfl,hg3⟩
     have HP3:=h_ (HP1.out.next hg3)
     clear hg3
     go_wp2
     go_roundw
     case rel=>exact ⟨i+1,by omega,by go_num,HP3⟩
     case measure=>simp [intOf];omega
  ·obtain rfl:i=n:=by omega
   have ilt:¬ (i:Int)<(i:Int):=by omega
   have yaq:Hid (PutG w (vI k xs) wr u7):=h_ (by unfold vI;rw [hx.out];exact HK.out)
   go_wp2
   go_ret2
   exact ⟨_,rfl,yaq.out⟩
end
def yey (l:Lb) (n j:Nat):Nat→Lb
 | 0=>[]
 | m+1=>yey l n j m++[l.getD (m*n+j) 0]
def ybZ (l:Lb) (n k:Nat):Nat→Lb
 | 0=>[]
 | m+1=>ybZ l n k m++yey l n m k
def yc3 (l:Lb) (n:Nat):Lb:=ybZ l n (l.length/n) n++l.drop (l.length/n*n)
theorem yad (l:Lb) (n j:Nat):∀ m,(yey l n j m).length=m
 | 0=>rfl
 | m+1=>by rw [yey,List.length_append,yad l n j m];rfl
theorem jC (l:Lb) (n k:Nat):∀ m,(ybZ l n k m).length=m*k
 | 0=>by simp [ybZ]
 | m+1=>by rw [ybZ,List.length_append,jC l n k m,yad,Nat.succ_mul]
theorem yj6 (l:Lb) (n j:Nat):∀ m i,i<m→(yey l n j m).getD i 0=l.getD (i*n+j) 0
 | m+1,i,h=>by
  rw [yey,List.getD_eq_getElem?_getD]
  by_cases hi:i<m
  ·rw [List.getElem?_append_left (by rw [yad];exact hi),← List.getD_eq_getElem?_getD,yj6 l n j m i hi]
  ·obtain rfl:i=m:=by omega
   rw [List.getElem?_append_right (by rw [yad];omega),yad];simp
theorem yeu (l:Lb) (n k:Nat):∀ m j i,j<m→i<k→(ybZ l n k m).getD (j*k+i) 0=l.getD (i*n+j) 0
 | m+1,j,i,hj,hi=>by
  rw [ybZ,List.getD_eq_getElem?_getD]
  by_cases h:j<m
  ·have hlt:j*k+i<m*k:=by
    have h1:(j+1)*k≤m*k:=Nat.mul_le_mul_right _ h
    rw [Nat.succ_mul] at h1;omega
   rw [List.getElem?_append_left (by rw [jC];exact hlt),← List.getD_eq_getElem?_getD,yeu l n k m j i h hi]
  ·obtain rfl:j=m:=by omega
   rw [List.getElem?_append_right (by rw [jC];omega),jC,show j*k+i-j*k=i by omega,← List.getD_eq_getElem?_getD,yj6 l n j k i hi]
theorem uN (l:Lb) {n:Nat}:(yc3 l n).length=l.length:=by
 unfold yc3
 rw [List.length_append,jC,List.length_drop,Nat.mul_comm n]
 have:=Nat.div_mul_le_self l.length n
 omega
theorem yaW {n k i j:Nat} (hi:i<k) (hj:j<n):i*n+j<k*n:=by
 have h1:(i+1)*n≤k*n:=Nat.mul_le_mul_right _ hi
 rw [Nat.succ_mul] at h1;omega
theorem yhw (l:Lb) {n i j:Nat} (hi:i<l.length/n) (hj:j<n):(yc3 l n).getD (j*(l.length/n)+i) 0=l.getD (i*n+j) 0:=by
 unfold yc3
 rw [List.getD_eq_getElem?_getD,List.getElem?_append_left (by rw [jC];exact yaW hj hi),← List.getD_eq_getElem?_getD]
 exact yeu l n _ n j i hj hi
theorem yf8 (l:Lb) {n t:Nat} (h:l.length/n*n≤t):(yc3 l n).getD t 0=l.getD t 0:=by
 unfold yc3
 rw [List.getD_eq_getElem?_getD,List.getElem?_append_right (by rw [jC,Nat.mul_comm n];exact h),jC,List.getElem?_drop,Nat.mul_comm n,show l.length/n*n+(t-l.length/n*n)=t by omega,← List.getD_eq_getElem?_getD]
theorem yj7 {a b:Lb} (h:a.length=b.length) (hg:∀ t,t<a.length→a.getD t 0=b.getD t 0):a=b:=by
 refine List.ext_getElem h fun t h1 h2=>?_
 have:=hg t h1
 simpa [List.getD_eq_getElem?_getD,h1,h2] using this
theorem yaC {n k t:Nat} (h:t<k*n) (hn:0<n):∃ i j,i<k∧j<n∧t=i*n+j :=
 ⟨t/n,t%n,(Nat.div_lt_iff_lt_mul hn).2 h,Nat.mod_lt _ hn,by rw [Nat.mul_comm];exact (Nat.div_add_mod t n).symm⟩
section
open Go.RowKit
open Go.Lib
def nb (l:Lb):Nat:=l.foldl (fun x c=>x*256+c.toNat) 0
theorem ynz (l:Lb) (c:UInt8):nb (l++[c])=nb l*256+c.toNat:=by unfold nb;rw [List.foldl_append];rfl
theorem ytS (l:Lb):∀ x,l.foldl (fun x (c:UInt8)=>x*256+c.toNat) x<(x+1)*256^l.length:=by
 induction l with
 | nil=>intro x;simp
 | cons c l ih =>
  intro x
  have h:=ih (x*256+c.toNat)
  have h2:=c.toNat_lt
  rw [List.foldl_cons,List.length_cons,Nat.pow_succ]
  refine Nat.lt_of_lt_of_le h ?_
  rw [Nat.mul_comm (256^l.length) 256,← Nat.mul_assoc]
  exact Nat.mul_le_mul_right _ (by omega)
theorem GQ (l:Lb):nb l<256^l.length:=by
 have:=ytS l 0
 unfold nb;omega
theorem ybu {l:Lb} (h:l.length≤8):nb l<18446744073709551616 :=
 Nat.lt_of_lt_of_le (GQ l) (Nat.le_trans (Nat.pow_le_pow_right (by omega) h) (by decide))
theorem yqo {S d:Nat} (hS:S*256+255<18446744073709551616) (hd:(d:Int)≤255):bits .or .u64 (IntKind.u64.wrap ((S:Int)*256)) (d:Int)=((S*256+d:Nat):Int):=by
 have h1:IntKind.u64.wrap ((S:Int)*256)=((S*256:Nat):Int):=by rw [IntKind.wrap_u64];omega
 rw [h1,u64_or_nat _ _ (by omega) (by omega),nat_join 8 (S*256) d (by omega) (by omega)]
theorem ynA {l:Lb} {k:Nat} (hk:k<l.length) (hl:l.length≤8):nb (l.take k)*256+255<18446744073709551616:=by
 have h1:=GQ (l.take k)
 rw [List.length_take,Nat.min_eq_left (by omega)] at h1
 have h2:256^k≤256^7:=Nat.pow_le_pow_right (by omega) (by omega)
 have h3:(256:Nat)^7=72057594037927936:=by decide
 omega
theorem jA (p:Oa) (c:Nat) (l:Lb) (w:World) (hn:l.length≤8) (hb:Bs w p l) :
  Calls Tryz.prog 197 #[.slice p l.length c] w (Qp (.int .u64 (nb l:Int)) w):=by
 have HB:=h_ hb
 clear hb
 obtain ⟨n,HN⟩:=ey (l.length)
 rw [← HN.out] at hn ⊢
 have hni:(n:Int)≤8:=by omega
 go_in
 go_wp2
 go_loop [3,8] (fun s i=>∃ k S:Nat,k≤n∧i=.int .i64 k∧s=.int .u64 (S:Int)∧Hid (S=nb (l.take k))) (fun _ i=>n-(intOf i).toNat)
 case atStart=>exact ⟨0,0,Nat.zero_le _,rfl,rfl,rfl⟩
 case round =>
  obtain ⟨k,S,hk,rfl,rfl,HS⟩:=hrel
  by_cases hlt:k<n
  ·obtain ⟨b1,o1,d,rfl,hb1,hc1,hd,hd2⟩:=HB.out.at (k:=k) (by rw [← HN.out];exact hlt)
   go_wp2_with fail
   go_round
   case rel=>exact ⟨k+1,S*256+d,by omega,by go_num,by rw [yqo (by rw [HS.out];exact ynA (by rw [← HN.out];exact hlt) (by rw [← HN.out];exact hn)) hd2],h_ (by rw [HS.out,← hd.out,yc9 (by rw [← HN.out];exact hlt),ynz])⟩
   case measure=>simp [intOf];omega
  ·obtain rfl:k=n:=by omega
   go_wp2
   go_ret
   refine ⟨?_,rfl⟩
   show Ending.returned (.int .u64 (S:Int))=_
   rw [HS.out,HN.out,List.take_length]
theorem vC (p:Oa) (c:Nat) (l:Lb) (w:World) (hn:l.length≤8) (hb:Bs w p l) :
  Calls Tryz.prog 120 #[.slice p l.length c] w (Qp (.int .u64 (nb l:Int)) w):=by
 have HB:=h_ hb
 clear hb
 obtain ⟨n,HN⟩:=ey (l.length)
 rw [← HN.out] at hn ⊢
 have hni:(n:Int)≤8:=by omega
 go_in
 go_wp2
 go_loop [3,4] (fun s i=>∃ k S:Nat,k≤n∧i=.int .i64 k∧s=.int .u64 (S:Int)∧Hid (S=nb (l.take k))) (fun _ i=>n-(intOf i).toNat)
 case atStart=>exact ⟨0,0,Nat.zero_le _,rfl,rfl,rfl⟩
 case round =>
  obtain ⟨k,S,hk,rfl,rfl,HS⟩:=hrel
  by_cases hlt:k<n
  ·obtain ⟨b1,o1,d,rfl,hb1,hc1,hd,hd2⟩:=HB.out.at (k:=k) (by rw [← HN.out];exact hlt)
   go_wp2_with fail
   go_round
   case rel=>exact ⟨k+1,S*256+d,by omega,by go_num,by rw [yqo (by rw [HS.out];exact ynA (by rw [← HN.out];exact hlt) (by rw [← HN.out];exact hn)) hd2],h_ (by rw [HS.out,← hd.out,yc9 (by rw [← HN.out];exact hlt),ynz])⟩
   case measure=>simp [intOf];omega
  ·obtain rfl:k=n:=by omega
   go_wp2
   go_ret
   refine ⟨?_,rfl⟩
   show Ending.returned (.int .u64 (S:Int))=_
   rw [HS.out,HN.out,List.take_length]
def jX:Nat→Lb
 | 0=>[0]
 | 1=>[1,0,1]
 | 2=>[1,0,1,0,0]
 | _=>[5,0,1,0,0,255,254]
structure PutAt (w:World) (k:Nat) (wr:World) (v:Value):Prop where
 own:wr.ownsRow w.heap.size 5 1 v (jX k).length (zN (jX k))
 below:Be w wr
theorem ygs (w:World):Calls Tryz.prog 75 #[.int .i64 3] w (Qp (.int .i64 1) w) :=
 (uM 3 (by omega) w).mono fun _ _ ⟨h,h2⟩=>⟨h,h2⟩
theorem PutAt.next {w W w':World} {v v':Value} {k:Nat} (hB:Be w W) (hv:∀ j,v.ownBlock=some j→w.heap.size≤j) (hg:Grew w.heap.size W v (jX k) w' v'):PutAt w k w' v' :=
 ⟨hg.own,hB.grown hg.grown hB.size hv⟩
theorem yvk:be 2 1=[0,1]:=by decide
theorem yvl:be 2 0=[0,0]:=by decide
theorem yvm:be 2 18446744073709551614=[255,254]:=by decide
theorem yrP:IntKind.u64.wrap (-2)=((18446744073709551614:Nat):Int):=by rw [IntKind.wrap_u64];rfl
theorem ywV:bits .or .u8 0 1=1:=by decide
theorem ywW:bits .or .u8 1 4=5:=by decide
theorem ywi:zN (jX 0)=(madeCells #[Value.int .u8 0] 1).toList:=by kernel_rfl
theorem yoT (p:Oa) (c:Nat) (w:World) (hs:Ss w p [[49],[],[45,50]]) (he:Env w) :
  Calls Tryz.prog 34 #[.int .i64 2,.slice p 3 c] w fun e w'=>∃ v,e=.returned (.tuple #[v,.int .i64 0])∧PutAt w 3 w' v:=by
 have HC:=h_ (yfj p c [[49],[],[45,50]] w (by simp) hs (by
  intro k hk
  have:k=0∨k=1∨k=2:=by simp at hk;omega
  rcases this with rfl|rfl|rfl
  ·exact ywd
  ·exact ywe
  ·exact ywf) he)
 have HS:=h_ hs
 have HV:=h_ he
 clear hs he
 obtain ⟨i0,hi,hz0,hz1,hz2⟩:=info_parts uF
 go_in
 go_wp2_with fail
 refine (HC.out).mono ?_
 rintro e w1 ⟨rfl,hb1⟩
 have yY:=h_ hb1
 clear hb1
 go_wp2_with fail
 refine (ygs _).mono ?_
 rintro e w' ⟨rfl,rfl⟩
 go_wp2_with (at_make;refine wpList_make_full _ rfl _ _ 39 rfl w.heap.size 5 i0 (.int .u8 0) 1 Tryz.underlying39 hi hz0 hz1 _ _ _ _ 1 rfl rfl (by rfl) (by rfl) ?b2 ?b3 yY.out.size ?_)
 case b2=>rw [hz2];omega
 case b3=>unfold maxLen;omega
 intro w2 yP zB
 have HP:Hid (PutAt w 0 w2 (.slice (some ⟨w1.heap.size,0,none⟩) 1 1)):=h_ ⟨(by rw [show zN (jX 0)=(madeCells #[Value.int .u8 0] 1).toList from ywi];exact yP),yY.out.grown zB yY.out.size (fun k h=>by cases h)⟩
 clear yP zB
 go_wp2
 go_loopw [7,22] (fun v i wr=>∃ (k:Nat) (z:Int),k≤3∧z=k∧i=.int .i64 z∧Hid (PutAt w k wr v)) (fun _ i _=>3-(intOf i).toNat)
 case atStart=>exact ⟨0,0,Nat.zero_le _,rfl,rfl,HP⟩
 case round =>
  obtain ⟨k,z,hk,hz,rfl,HK⟩:=hrel
  have hk4:k=0∨k=1∨k=2∨k=3:=by omega
  rcases hk4 with rfl|rfl|rfl|rfl
  ·obtain rfl:z=0:=hz
   obtain ⟨b1,o1,x,rfl,hb1,hc1,hx⟩:=(HS.out.below HK.out.below).at (k:=0) (by simp)
   obtain rfl:x=[49]:=hx.out.symm
   rw [Nat.add_zero] at hc1
   obtain ⟨g,cap,hv5,hcap,hg,hgl,zS,vW,GZ⟩:=yat HK.out.own (by simp [jX])
   rw [show (jX 0).length=1 from rfl] at hv5 hcap
   subst hv5
   have gc:wr.cell? ⟨g,0,none⟩=some (.int .u8 0):=zS 0 (by simp [jX])
   have gf:wr.frozen? ⟨g,0,none⟩=false:=vW 0
   have hw:((wr.setCell ⟨g,0,none⟩ (.int .u8 1)).drew).ownsRow w.heap.size 5 1 (.slice (some ⟨g,0,none⟩) 1 cap) 1 (zN ((jX 0).set 0 1)):=GZ 0 1 (by simp [jX])
   have vK:Hid (Be w ((wr.setCell ⟨g,0,none⟩ (.int .u8 1)).drew)):=h_ ((HK.out.below.setCell hg _).drew)
   have HA:Hid (Calls Tryz.prog 77 #[.slice (some ⟨g,0,none⟩) 1 cap,.string ⟨#[49]⟩,.int .i64 2] ((wr.setCell ⟨g,0,none⟩ (.int .u8 1)).drew) (App w.heap.size ((wr.setCell ⟨g,0,none⟩ (.int .u8 1)).drew) (.slice (some ⟨g,0,none⟩) 1 cap) (jX 1))):=h_ (by
    have:=yaN w.heap.size _ ((jX 0).set 0 1) [49] 1 1 2 _ (by omega) (by simp [jX]) vK.out.size hw (by simp) ywT (by rw [IntKind.wrap_u64];rfl) (by omega)
    rw [yvk] at this;exact this)
   have hor:=ywV
   clear zS vW GZ hk hw
   go_wp2_with fail
   go_region
   clear hor
   go_wp2_with fail
   refine (yde _).mono ?_
   rintro e w' ⟨rfl,rfl⟩
   go_wp2_with fail
   refine (HA.out).mono ?_
   rintro e w3 ⟨v3,rfl,hg3⟩
   have HP3:=h_ (PutAt.next vK.out (by intro j hj;cases hj;exact hg) hg3)
   clear hg3
   go_wp2
   go_roundw
   case rel=>exact ⟨1,1,by omega,rfl,rfl,HP3⟩
   case measure=>simp [intOf]
  ·obtain rfl:z=1:=hz
   obtain ⟨b1,o1,x,rfl,hb1,hc1,hx⟩:=(HS.out.below HK.out.below).at (k:=1) (by simp)
   obtain rfl:x=[]:=hx.out.symm
   obtain ⟨g,cap,hv5,hcap,hg,hgl,zS,vW,GZ⟩:=yat HK.out.own (by simp [jX])
   rw [show (jX 1).length=3 from rfl] at hv5 hcap
   subst hv5
   have HA:Hid (Calls Tryz.prog 77 #[.slice (some ⟨g,0,none⟩) 3 cap,.string ⟨#[]⟩,.int .i64 2] wr (App w.heap.size wr (.slice (some ⟨g,0,none⟩) 3 cap) (jX 2))):=h_ (by
    have:=ybK w.heap.size _ (jX 1) [] 2 wr (by omega) (by simp [jX]) HK.out.below.size HK.out.own (by simp) rfl (HV.out.below HK.out.below)
    rw [yvl] at this;exact this)
   have vK:=h_ HK.out.below
   clear zS vW GZ hk
   go_wp2_with fail
   refine (yde _).mono ?_
   rintro e w' ⟨rfl,rfl⟩
   go_wp2_with fail
   refine (HA.out).mono ?_
   rintro e w3 ⟨v3,rfl,hg3⟩
   have HP3:=h_ (PutAt.next vK.out (by intro j hj;cases hj;exact hg) hg3)
   clear hg3
   go_wp2
   go_roundw
   case rel=>exact ⟨2,2,by omega,rfl,rfl,HP3⟩
   case measure=>simp [intOf]
  ·obtain rfl:z=2:=hz
   obtain ⟨b1,o1,x,rfl,hb1,hc1,hx⟩:=(HS.out.below HK.out.below).at (k:=2) (by simp)
   obtain rfl:x=[45,50]:=hx.out.symm
   obtain ⟨g,cap,hv5,hcap,hg,hgl,zS,vW,GZ⟩:=yat HK.out.own (by simp [jX])
   rw [show (jX 2).length=5 from rfl] at hv5 hcap
   subst hv5
   have gc:wr.cell? ⟨g,0,none⟩=some (.int .u8 1):=zS 0 (by simp [jX])
   have gf:wr.frozen? ⟨g,0,none⟩=false:=vW 0
   have hw:((wr.setCell ⟨g,0,none⟩ (.int .u8 5)).drew).ownsRow w.heap.size 5 1 (.slice (some ⟨g,0,none⟩) 5 cap) 5 (zN ((jX 2).set 0 5)):=GZ 0 5 (by simp [jX])
   have vK:Hid (Be w ((wr.setCell ⟨g,0,none⟩ (.int .u8 5)).drew)):=h_ ((HK.out.below.setCell hg _).drew)
   have HA:Hid (Calls Tryz.prog 77 #[.slice (some ⟨g,0,none⟩) 5 cap,.string ⟨#[45,50]⟩,.int .i64 2] ((wr.setCell ⟨g,0,none⟩ (.int .u8 5)).drew) (App w.heap.size ((wr.setCell ⟨g,0,none⟩ (.int .u8 5)).drew) (.slice (some ⟨g,0,none⟩) 5 cap) (jX 3))):=h_ (by
    have:=yaN w.heap.size _ ((jX 2).set 0 5) [45,50] (-2) 18446744073709551614 2 _ (by omega) (by simp [jX]) vK.out.size hw (by simp) ywU yrP (by omega)
    rw [yvm] at this;exact this)
   have hor:=ywW
   clear zS vW GZ hk hw
   go_wp2_with fail
   go_region
   clear hor
   go_wp2_with fail
   refine (yde _).mono ?_
   rintro e w' ⟨rfl,rfl⟩
   go_wp2_with fail
   refine (HA.out).mono ?_
   rintro e w3 ⟨v3,rfl,hg3⟩
   have HP3:=h_ (PutAt.next vK.out (by intro j hj;cases hj;exact hg) hg3)
   clear hg3
   go_wp2
   go_roundw
   case rel=>exact ⟨3,3,by omega,rfl,rfl,HP3⟩
   case measure=>simp [intOf]
  ·obtain rfl:z=3:=hz
   go_wp2
   go_ret2
   exact ⟨_,rfl,HK.out⟩
theorem ykZ (w:World):Ss (w.alloc (.cells #[.string ⟨#[49]⟩,.string ⟨#[]⟩,.string ⟨#[45,50]⟩] 9)) (some ⟨w.heap.size,0,none⟩) [[49],[],[45,50]]:=by
 refine .inr ⟨w.heap.size,0,rfl,by simp,fun j hj=>?_⟩
 have:j=0∨j=1∨j=2:=by simp at hj;omega
 unfold World.cell?
 rw [heap_alloc_new]
 rcases this with rfl|rfl|rfl<;>rfl
theorem yrQ (w:World) (he:Env w):Calls Tryz.prog 10 #[] w (Rp (.bool true) w):=by
 have hB0:Be w (w.alloc (.cells #[.string ⟨#[49]⟩,.string ⟨#[]⟩,.string ⟨#[45,50]⟩] 9)):=bR.alloc nl _
 have HP:=h_ (yoT (some ⟨w.heap.size,0,none⟩) 3 _ (ykZ w) (he.below hB0))
 have HB0:=h_ hB0
 clear he hB0
 go_in
 go_wp2_with fail
 refine (HP.out).mono ?_
 rintro e w1 ⟨v,rfl,hp⟩
 have yY:=h_ (HB0.out.trans (hp.below.mono (by simp)))
 obtain ⟨g,cap,hv5,hcap,hg,hgl,zS,vW,GZ⟩:=yat hp.own (by simp [jX])
 rw [show (jX 3).length=7 from rfl] at hv5 hcap
 subst hv5
 have g0:w1.cell? ⟨g,0,none⟩=some (.int .u8 5):=zS 0 (by simp [jX])
 have g2:w1.cell? ⟨g,2,none⟩=some (.int .u8 1):=zS 2 (by simp [jX])
 have g5:w1.cell? ⟨g,5,none⟩=some (.int .u8 255):=zS 5 (by simp [jX])
 have g6:w1.cell? ⟨g,6,none⟩=some (.int .u8 254):=zS 6 (by simp [jX])
 clear zS vW GZ hp
 go_wp2
 go_ret
 exact ⟨rfl,yY.out⟩
theorem jK {w:World} {b off n:Nat} {l:Lb} (h:Bs w (some ⟨b,off,none⟩) l) (k m:Nat) (hk:k+m≤l.length) (hn:n=off+k):Bs w (some ⟨b,n,none⟩) ((l.drop k).take m):=by
 subst hn
 rcases h with h0|⟨b1,o1,h1,h2,h3⟩
 ·exact .inl (by simp;omega)
 ·cases h1
  refine .inr ⟨b,off+k,rfl,h2,fun j hj=>?_⟩
  have hj2:j<m:=by simp at hj;omega
  rw [Nat.add_assoc,h3 (k+j) (by omega)]
  simp [List.getD_eq_getElem?_getD,hj2]
theorem vH {w:World} {b off n:Nat} {l:Lb} (h:Bs w (some ⟨b,off,none⟩) l) (k:Nat) (hk:k≤l.length) (hn:n=off+k):Bs w (some ⟨b,n,none⟩) (l.drop k):=by
 have:=jK h k (l.length-k) (by omega) hn
 rwa [List.take_of_length_le (by simp)] at this
def uR (L:Lb) (w:World) (e:Ending) (w':World):Prop:=Be w w'∧∃ v,e=.returned (.tuple #[v,.int .i64 0])∧w'.ownsRow w.heap.size 5 1 v L.length (zN L)
theorem yrR (n:Int) (w:World) (h:n<1∨8<n):Calls Tryz.prog 84 #[.int .i64 n] w (Qp (.bool false) w):=by
 by_cases h1:n<1
 ·have h1':decide (1≤n)=false:=by simp;omega
  clear h
  go_in
  go_wp2
  go_ret
  exact ⟨rfl,rfl⟩
 ·have h2:decide (n≤8)=false:=by simp;omega
  clear h
  go_in
  go_wp2
  go_ret
  exact ⟨rfl,rfl⟩
theorem yie (n:Nat) (w:World) (h1:1≤n) (h2:n≤8):Calls Tryz.prog 84 #[.int .i64 (n:Int)] w (Qp (.bool true) w):=by
 have h1':decide (1≤(n:Int))=true:=by simp;omega
 have h2':decide ((n:Int)≤8)=true:=by simp;omega
 clear h1 h2
 go_in
 go_wp2
 go_ret
 exact ⟨rfl,rfl⟩
theorem yaI (p:Oa) (k c n:Nat) (w:World) (h1:1≤n) (h2:n≤8) (hk:k≤1048576):Calls Tryz.prog 147 #[.slice p k c,.int .i64 (n:Int)] w (Qp (.int .i64 0) w):=by
 have H:=h_ (yie n w h1 h2)
 have hk':(k:Int)≤1048576:=by omega
 clear h1 h2 hk
 go_in
 go_wp2_with fail
 refine (H.out).mono ?_
 rintro e w' ⟨rfl,rfl⟩
 go_wp2
 go_ret
 exact ⟨rfl,rfl⟩
end
end Go.Proofs.YtgepehlpjpccaaaGreatDoor
