/- Contracts. -/
import Derived.Test.YtgepehlpjpccaaaGreatDoorNDV
namespace Go.Proofs.YtgepehlpjpccaaaGreatDoor
set_option maxHeartbeats 1600000
set_option maxRecDepth 100000
section
open Go.RowKit
open Go.Lib
theorem ynk (p:Option Addr) (c n:Nat) (l:List UInt8) (w:World) (h1:1≤n) (h2:n≤8) (hl:l.length≤20000) (hc:l.length≤c) (hpc:p=none→c=0) (hb:Bs w p l) :
  Calls Tryz.prog 109 #[.slice p l.length c,.int .i64 (n:Int)] w (jY (ytz l n) w):=by
 have HBW:Hid (Below w.heap.size w (w.alloc (.cells #[.int .u64 0] 86))):=Lib.hid ((Below.refl _ w).alloc (Nat.le_refl _) _)
 have HC:=Lib.hid (ynj p c n w.heap.size l (w.alloc (.cells #[.int .u64 0] 86)) h1 h2 hl hc hpc (hb.bsN.keep HBW.out) (World.alloc_heap_new w _))
 obtain ⟨R,HR⟩:∃ R,Hid (R=ytz l n):=⟨_,rfl⟩
 have e:chR GM n (l.length/n) 0 l=R:=HR.out.symm
 rw [e] at HC
 rw [← HR.out]
 clear e
 obtain ⟨len,HL⟩:∃ len,Hid (len=l.length):=⟨_,rfl⟩
 rw [← HL.out] at hl hc HC ⊢
 clear hb hpc
 go_enter Tryz.func109,Tryz.ntmps109
 go_wp2_with fail
 refine (HC.out).mono ?_
 rintro e w' ⟨hb1,v,rfl,ho⟩
 obtain ⟨q,d,rfl,-,-⟩:=zE ho
 have HO:=Lib.hid ho
 obtain ⟨m,HM⟩:∃ m,Hid (m=R.length):=⟨_,rfl⟩
 rw [← HM.out] at HO ⊢
 have HB:=Lib.hid (HBW.out.trans hb1)
 clear ho hb1
 go_wp2_with fail
 go_ret2
 exact ⟨HB.out,_,rfl,by rw [← HM.out];exact HO.out⟩
end
theorem yrq (b:Nat→Nat) (hb:∀ t,b t<2) (q:Nat) (r:Nat):∀ R,r<R→R≤8→bv b q R/2^(7-r)%2=b (8*q+r)
 | 0,h,_=>by omega
 | R+1,h,h8=>by
  obtain ⟨a,ha⟩:=ymv b q R (by omega)
  by_cases e:r=R
  ·subst e
   have e2:8-r=(7-r)+1:=by omega
   have hp:0<2^(7-r):=Nat.pow_pos (by decide)
   rw [bv,ha,e2,Nat.pow_succ,Nat.mul_assoc,Nat.mul_comm (b _),Nat.mul_add_div hp,Nat.mul_div_cancel_left _ hp,Nat.mul_add_mod]
   exact Nat.mod_eq_of_lt (hb _)
  ·have hr:r<R:=by omega
   have h1:=yrq b hb q r R hr (by omega)
   have hlt:b (8*q+R)*2^(7-R)<2^(8-R):=by
    have e:8-R=(7-R)+1:=by omega
    have h3:b (8*q+R)*2^(7-R)≤1*2^(7-R):=Nat.mul_le_mul_right _ (by have:=hb (8*q+R);omega)
    have h2:0<2^(7-R):=Nat.pow_pos (by decide)
    rw [e,Nat.pow_succ];omega
   have hp:0<2^(8-R):=Nat.pow_pos (by decide)
   have e3:2^(7-r)=2^(8-R)*2^(R-1-r):=by rw [← Nat.pow_add];congr 1;omega
   have e4:bv b q (R+1)/2^(7-r)=bv b q R/2^(7-r):=by
    rw [bv,ha,e3,← Nat.div_div_eq_div_mul,← Nat.div_div_eq_div_mul,Nat.mul_add_div hp,Nat.div_eq_of_lt hlt,Nat.add_zero,Nat.mul_div_cancel_left _ hp]
   rw [e4];exact h1
theorem yue (b:Nat→Nat) (hb:∀ t,b t<2) {T t:Nat} (h:t<T):((pkL b T).getD (t/8) 0).toNat/2^(7-t%8)%2=b t:=by
 rw [yrF b (by omega),ykd b hb _ (Nat.min_le_left _ _),yrq b hb (t/8) (t%8) _ (by omega) (Nat.min_le_left _ _)]
 congr 1;omega
theorem yrr:∀ (f x:Nat),x<2^f→x<2^Lib.bitLenAux f x
 | 0,x,h=>h
 | f+1,x,h=>by
  rw [Lib.bitLenAux]
  by_cases h0:x=0
  ·rw [if_pos h0,h0];decide
  ·rw [if_neg h0,Nat.add_comm 1,Nat.pow_succ]
   have:=yrr f (x/2) (by rw [Nat.pow_succ] at h;omega);omega
theorem yxF {x:Nat} (h:x<jM):x<2^bl x:=yrr 64 x (by unfold jM at h;omega)
theorem ypx (d:Nat) {w j:Nat} (hj:j<w):d/2^(w-1-j)=2*(d/2^(w-j))+d/2^(w-1-j)%2:=by
 have e:w-j=(w-1-j)+1:=by omega
 rw [e,Nat.pow_succ,← Nat.div_div_eq_div_mul];omega
set_option maxHeartbeats 4000000
section
open Go.RowKit
open Go.Lib
def rdB (l:List UInt8) (t:Nat):Nat:=(l.getD (t/8) 0).toNat/2^(7-t%8)%2
theorem yrs (l:List UInt8) (t:Nat):rdB l t<2:=Nat.mod_lt _ (by decide)
def dfB (b:Nat→Nat) (t0:Nat):Nat→Nat
 | 0=>0
 | j+1=>2*dfB b t0 j%jM+b (t0+j)
theorem yrt {b:Nat→Nat} (hb:∀ t,b t<2) (t0:Nat):∀ j,dfB b t0 j<jM
 | 0=>by rw [dfB];decide
 | j+1=>by
  have h1:=hb (t0+j)
  rw [dfB];unfold jM;omega
def unV (b:Nat→Nat) (wd m i:Nat):Nat:=(m+dfB b (i*wd) wd)%jM
def unG (b:Nat→Nat) (wd m k:Nat):List Nat:=(List.range k).map (unV b wd m)
theorem ycw (b:Nat→Nat) (wd m k:Nat):(unG b wd m k).length=k:=by simp [unG]
theorem ysd (b:Nat→Nat) (wd m k:Nat):unG b wd m (k+1)=unG b wd m k++[unV b wd m k]:=by rw [unG,List.range_succ,List.map_append];rfl
theorem yuf {v r:Nat} (hv:v<256):bits .and .u8 ((v:Int)/2^r) 1=((v/2^r%2:Nat):Int):=by
 have h1:(v:Int)/2^r=((v/2^r:Nat):Int):=by rw [Int.natCast_ediv,Int.natCast_pow];rfl
 have h2:=u8_and_nat (v/2^r) 1 (Nat.lt_of_le_of_lt (Nat.div_le_self _ _) hv) (by decide)
 rw [nat_mask1] at h2
 rw [h1,show (1:Int)=((1:Nat):Int) from rfl,h2]
theorem ywk {x bt:Nat} (hb:bt<2):bits .or .u64 (IntKind.u64.wrap ((x:Int)*2)) (bt:Int)=((2*x%jM+bt:Nat):Int):=by
 have h1:IntKind.u64.wrap ((x:Int)*2)=((2*x%jM:Nat):Int):=by rw [IntKind.wrap_u64];unfold jM;omega
 have h3:2*x%jM=2^1*(2*x%jM/2):=by unfold jM;omega
 have h4:2*x%jM ||| bt=2*x%jM+bt:=by
  have:=Nat.two_pow_add_eq_or_of_lt (i:=1) (b:=bt) (by omega) (2*x%jM/2)
  rw [← h3] at this;exact this.symm
 rw [h1,u64_or_nat _ _ (by unfold jM;omega) (by omega),h4]
theorem ybB (p:Option Addr) (c n k m wd len:Nat) (l:List UInt8) (w:World) (HL:Hid (len=l.length)) (h1:1≤n) (h2:n≤8) (hl:len≤1048576) (hk:k*n≤1048576) (hwd:wd≤255) (hm:m<jM) (hbits:k*wd≤8*len) (hb:Bs w p l) :
  Calls Tryz.prog 199 #[.slice p len c,.int .i64 (n:Int),.int .i64 (k:Int),.int .u64 (m:Int),.int .i64 (wd:Int)] w (App w.heap.size w (.slice none 0 0) (jl n (unG (rdB l) wd m k))):=by
 obtain ⟨i0,hi,hz0,hz1,hz2⟩:=info_parts ya6
 have HB:=Lib.hid hb
 have hkl:k≤1048576:=by
  have h3:k*1≤k*n:=Nat.mul_le_mul_left _ h1
  omega
 have hki:(k:Int)≤1048576:=by omega
 have hn1:1≤(n:Int):=by omega
 have hn8:(n:Int)≤8:=by omega
 have hwi:(wd:Int)≤255:=by omega
 obtain ⟨C,HC⟩:∃ C,Hid (C=k*n):=⟨_,rfl⟩
 have ybP:(k:Int)*(n:Int)=(C:Int):=by rw [HC.out];simp
 have hCi:(C:Int)≤1048576:=by rw [HC.out];omega
 have HM:=Lib.hid hm
 have HBI:=Lib.hid hbits
 have HKN:=Lib.hid hk
 have hmi:(m:Int)≤18446744073709551615:=by unfold jM at hm;omega
 obtain ⟨R,HR⟩:∃ R,Hid (R=jl n (unG (rdB l) wd m k)):=⟨_,rfl⟩
 rw [← HR.out]
 clear hb hm hbits hk
 go_enter Tryz.func199,Tryz.ntmps199
 go_wp2_with (at_make;refine wpList_make_own _ rfl _ _ 39 rfl w.heap.size 5 i0 (.int .u8 0) 1 Tryz.underlying39 hi hz0 hz1 _ _ _ C rfl rfl ?b1 ?b2 ?b3 (Nat.le_refl _) ?_)
 case b1=>omega
 case b2=>rw [hz2];omega
 case b3=>unfold maxLen;omega
 intro w1 yW zC
 have HG0:Hid (Grew w.heap.size w (.slice none 0 0) (jl n (unG (rdB l) wd m 0)) w1 (.slice (some ⟨w.heap.size,0,none⟩) 0 C)):=Lib.hid ⟨yW,zC,.inr ⟨_,rfl,Nat.le_refl _⟩⟩
 clear yW zC
 go_wp2_with fail
 go_loopw [11,12,19] (fun vr uv iv wr=>∃ (i T:Nat),i≤k∧iv=.int .i64 i∧uv=.int .i64 T∧Hid (T=i*wd)∧Hid (Grew w.heap.size w (.slice none 0 0) (jl n (unG (rdB l) wd m i)) wr vr)) (fun _ _ iv _=>k-(Go.RowKit.intOf iv).toNat)
 case atStart=>exact ⟨0,0,Nat.zero_le _,rfl,rfl,Lib.hid (by rw [Nat.zero_mul]),HG0⟩
 case round =>
  obtain ⟨i,T,hik,rfl,rfl,HT,HG⟩:=hrel
  by_cases ycA:i<k
  ·have hilt':(i:Int)<k:=by omega
   have hbw:Hid (Below w.heap.size w wr):=Lib.hid (HG.out.below (Nat.le_refl _) (by intro k hk;cases hk))
   have hPT:T+wd≤8*len:=by
    have h5:(i+1)*wd≤k*wd:=Nat.mul_le_mul_right _ ycA
    have h6:=HBI.out
    rw [Nat.succ_mul] at h5
    rw [HT.out];omega
   go_wp2_with fail
   go_loop [12,13,22] (fun uv xv jv=>∃ (j x T1:Nat),j≤wd∧jv=.int .i64 j∧uv=.int .i64 T1∧xv=.int .u64 (x:Int)∧Hid (T1=T+j)∧Hid (x=dfB (rdB l) T j)) (fun _ _ jv=>wd-(Go.RowKit.intOf jv).toNat)
   case atStart=>exact ⟨0,0,T,Nat.zero_le _,rfl,rfl,rfl,Lib.hid (Nat.add_zero _).symm,Lib.hid rfl⟩
   case round =>
    obtain ⟨j,x,T1,hj,rfl,rfl,rfl,HT1,HX⟩:=hrel
    by_cases hjw:j<wd
    ·have hjw':(j:Int)<wd:=by omega
     have hT1:T1<8*len:=by rw [HT1.out];omega
     have hT1i:(T1:Int)≤8388608:=by omega
     obtain ⟨q8,HQ8⟩:∃ q8,Hid (q8=T1/8):=⟨_,rfl⟩
     have hq8:(T1:Int)/8=(q8:Int):=by rw [HQ8.out];omega
     have hq8l:q8<len:=by rw [HQ8.out];omega
     have hq8i:(q8:Int)<len:=by omega
     obtain ⟨b1,o1,v,rfl,hb1,hc1,hv,hv2⟩:=(HB.out.below hbw.out).at (k:=q8) (by rw [← HL.out];exact hq8l)
     obtain ⟨r7,HR7⟩:∃ r7,Hid (r7=7-T1%8):=⟨_,rfl⟩
     have ytB:(r7:Int)≤7:=by rw [HR7.out];omega
     have hr7:7-(T1:Int)%8=(r7:Int):=by rw [HR7.out];omega
     obtain ⟨bt,HBT⟩:∃ bt,Hid (bt=v/2^r7%2):=⟨_,rfl⟩
     have hbt:bt<2:=by rw [HBT.out];exact Nat.mod_lt _ (by decide)
     have hbti:(bt:Int)≤1:=by omega
     have yiQ:bits .and .u8 ((v:Int)/2^r7) 1=(bt:Int):=by rw [yuf (by omega),HBT.out]
     have hxl:x<jM:=by rw [HX.out];exact yrt (yrs l) _ _
     have hxi:(x:Int)≤18446744073709551615:=by unfold jM at hxl;omega
     obtain ⟨x2,HX2⟩:∃ x2,Hid (x2=2*x%jM+bt):=⟨_,rfl⟩
     have hor:bits .or .u64 (IntKind.u64.wrap ((x:Int)*2)) (bt:Int)=(x2:Int):=by rw [ywk hbt,HX2.out]
     have hx2:Hid (x2=dfB (rdB l) T (j+1)):=Lib.hid (by
      rw [dfB,← HX.out,HX2.out,HBT.out,rdB,← HT1.out,← HQ8.out,hv.out,← HR7.out])
     clear hxl hbt
     go_wp2_with fail
     go_round
     case rel=>exact ⟨j+1,x2,T1+1,by omega,by go_num,by go_num,by first|rfl|rw [hor],Lib.hid (by rw [HT1.out];omega),hx2⟩
     case measure=>simp [Go.RowKit.intOf];omega
    ·obtain rfl:j=wd:=by omega
     obtain ⟨z,HZ⟩:∃ z,Hid (z=(m+x)%jM):=⟨_,rfl⟩
     have ycl:IntKind.u64.wrap ((m:Int)+(x:Int))=(z:Int):=by rw [IntKind.wrap_u64,HZ.out];unfold jM;omega
     have hzl:z<jM:=by rw [HZ.out];exact Nat.mod_lt _ (by decide)
     obtain ⟨L,HLL⟩:∃ L,Hid (L=jl n (unG (rdB l) j m i)):=⟨_,rfl⟩
     rw [← HLL.out] at HG
     have hLl:L.length≤1048576:=by
      have h5:i*n≤k*n:=Nat.mul_le_mul_right _ hik
      have h6:=HKN.out
      rw [HLL.out,yac,ycw];omega
     have HN:=Lib.hid (jN w.heap.size _ L z n wr h2 (by omega) hbw.out.size HG.out.own hzl)
     have hxl:x<jM:=by rw [HX.out];exact yrt (yrs l) _ _
     have hxi:(x:Int)≤18446744073709551615:=by unfold jM at hxl;omega
     clear hzl hxl
     go_wp2_with fail
     refine (HN.out).mono ?_
     rintro e w2 ⟨v2,rfl,hg2⟩
     have HG2:=Lib.hid (HG.out.trans hg2)
     rw [show L++be n z=jl n (unG (rdB l) j m (i+1)) by rw [ysd,ydl,← HLL.out,unV,← HT.out,← HX.out,← HZ.out,jl,jl,List.append_nil]] at HG2
     clear hg2
     go_wp2_with fail
     go_roundw
     case rel=>exact ⟨i+1,T1,by omega,by go_num,rfl,Lib.hid (by rw [HT1.out,HT.out,Nat.succ_mul]),HG2⟩
     case measure=>simp [Go.RowKit.intOf];omega
  ·obtain rfl:i=k:=by omega
   rw [← HR.out] at HG
   go_wp2_with fail
   go_ret
   exact ⟨_,rfl,HG.out⟩
def ybD (L:List UInt8) (w:World) (e:Ending) (w':World):Prop:=Below w.heap.size w w'∧∃ q d,e=.returned (.tuple #[.slice q L.length d,.bool true])∧Hid (L.length≤d)∧Hid (q=none→d=0)∧Bs w' q L
theorem yug (b0 off len0 len1 len2 len3 c0 c1 c2 s n n1 k m wd:Nat) (l:List UInt8) (w:World) (h1:1≤n) (h2:n≤8) (hN1:Hid (n1=n+1)) (e0:Hid (len0=len1+4)) (e1:Hid (len1=len2+n1)) (e2:Hid (len2=len3+s)) (d0:Hid (c0=c1+4)) (d1:Hid (c1=c2+n1)) (hc2:0<c2) (hcs:Hid (s≤c2)) (hc:len0≤c0) (hlm:len2≤1048576) (hl:Hid (l.length=len0)) (hk0:0<k) (hk:k*n≤1048576) (hwd:wd≤255) (hs:Hid (s=(k*wd+7)/8))
  (hk4:Hid (nb (l.take 4)=k)) (hm:Hid (nb ((l.drop 4).take n)=m)) (hwv:Hid (((l.drop 4).getD n 0).toNat=wd)) (hb:Bs w (some ⟨b0,off,none⟩) l) :
  Calls Tryz.prog 164 #[.slice (some ⟨b0,off,none⟩) len0 c0,.int .i64 (n:Int)] w (ybD (jl n (unG (rdB ((l.drop 4).drop n1)) wd m k)++((l.drop 4).drop n1).drop s) w):=by
 have HB:=Lib.hid hb
 have hn:=hN1.out
 have hn0:1≤(n:Int):=by omega
 have hn8:(n:Int)≤8:=by omega
 have hn1:(n:Int)+1=(n1:Int):=by omega
 have hn2:2≤(n1:Int):=by omega
 have hn9:(n1:Int)≤9:=by omega
 have hnn:n<n1:=by omega
 have hni:(n:Int)<(n1:Int):=by omega
 have hnle:n≤n1:=by omega
 have hki:0<(k:Int):=by omega
 have hki0:¬ (k:Int)=0:=by omega
 have hkl:k≤1048576:=by
  have h3:k*1≤k*n:=Nat.mul_le_mul_left _ h1
  omega
 have hki2:(k:Int)≤1048576:=by omega
 obtain ⟨D,HD⟩:∃ D,Hid (D=1048576/n):=⟨_,rfl⟩
 have hkD:k≤D:=by rw [HD.out,Nat.le_div_iff_mul_le (by omega)];exact hk
 have hkDi:¬ (D:Int)<(k:Int):=by omega
 have hkDd:decide (D<k)=false:=decide_eq_false (by omega)
 have hDi:(D:Int)≤1048576:=by
  have:=Nat.div_le_self 1048576 n
  rw [HD.out];omega
 have yqA:(1048576:Int)/(n:Int)=(D:Int):=by rw [HD.out,Int.natCast_ediv];rfl
 have hwi:(wd:Int)≤255:=by omega
 obtain ⟨TT,HTT⟩:∃ TT,Hid (TT=k*wd):=⟨_,rfl⟩
 have ybP:(k:Int)*(wd:Int)=(TT:Int):=by rw [HTT.out];simp
 have hTT:(TT:Int)≤267386880:=by
  have h5:k*wd≤1048576*255:=Nat.mul_le_mul hkl hwd
  rw [HTT.out];omega
 have hsz:((TT:Int)+7)/8=(s:Int):=by rw [hs.out,HTT.out];omega
 have q0:=e0.out
 have q1:=e1.out
 have qc0:=d0.out
 have qc1:=d1.out
 have hll:l.length=len0:=hl.out
 have hb1:Hid (∀ W,Below w.heap.size w W→Bs W (some ⟨b0,off+4,none⟩) (l.drop 4)):=Lib.hid (fun W hW=>yaA (hb.below hW) 4 (by omega) rfl)
 have HN4:=Lib.hid (jS (some ⟨b0,off,none⟩) c0 (l.take 4) w (by rw [List.length_take];omega) (by have h:=ya8 hb 0 4 (by omega) (Nat.add_zero off).symm;rwa [List.drop_zero] at h))
 rw [show (l.take 4).length=4 by rw [List.length_take];omega,hk4.out] at HN4
 have HNn:Hid (∀ W,Below w.heap.size w W→Calls Tryz.prog 197 #[.slice (some ⟨b0,off+4,none⟩) n c1] W fun e w'=>e=.returned (.int .u64 (m:Int))∧W=w'):=Lib.hid (fun W hW=>by
  have h:=jS (some ⟨b0,off+4,none⟩) c1 ((l.drop 4).take n) W (by rw [List.length_take,List.length_drop];omega) (by have h:=ya8 (hb1.out W hW) 0 n (by rw [List.length_drop];omega) rfl;rwa [List.drop_zero] at h)
  rwa [show ((l.drop 4).take n).length=n by rw [List.length_take,List.length_drop];omega,hm.out] at h)
 have hcw:Hid (∀ W,Below w.heap.size w W→W.cell? ⟨b0,off+4+n,none⟩=some (.int .u8 (wd:Int))):=Lib.hid (fun W hW=>by
  rcases hb1.out W hW with h0|⟨b,o,e,h3,h4⟩
  ·rw [List.length_drop] at h0;omega
  ·injection e with e;injection e with e1 e2;subst e1;subst e2
   have h5:=h4 n (by rw [List.length_drop];omega)
   rwa [hwv.out] at h5)
 have hmi:(m:Int)≤18446744073709551615:=by
  have h5:m<18446744073709551616:=by rw [← hm.out];exact yge (by rw [List.length_take];omega)
  omega
 have yvN:m<jM:=by unfold jM;omega
 have Q2:=e2.out
 have h2x:=hcs.out
 have i0:4≤(len0:Int):=by omega
 have i0c:4<(c0:Int):=by omega
 have i0d:(len0:Int)≤(c0:Int):=by omega
 have i0l:(len0:Int)≤1048590:=by omega
 have i1:(n1:Int)≤(len1:Int):=by omega
 have i1n:(n:Int)<(len1:Int):=by omega
 have i1c:(n1:Int)<(c1:Int):=by omega
 have i1d:(len1:Int)≤(c1:Int):=by omega
 have i1e:(n:Int)≤(c1:Int):=by omega
 have i2:(s:Int)≤(len2:Int):=by omega
 have i2c:(s:Int)≤(c2:Int):=by omega
 have i2d:(len2:Int)≤(c2:Int):=by omega
 have i0':¬ (len0:Int)<4:=by omega
 have i1':¬ (len1:Int)<(n1:Int):=by omega
 have i2':¬ (len2:Int)<(s:Int):=by omega
 have f0:len0-4=len1:=by omega
 have f0c:c0-4=c1:=by omega
 have f1:len1-n1=len2:=by omega
 have f1c:c1-n1=c2:=by omega
 have f2:len2-s=len3:=by omega
 obtain ⟨l2,HL2⟩:∃ l2,Hid (l2=(l.drop 4).drop n1):=⟨_,rfl⟩
 have hl2:Hid (len2=l2.length):=Lib.hid (by rw [HL2.out,List.length_drop,List.length_drop];omega)
 have hb2:Hid (∀ W,Below w.heap.size w W→Bs W (some ⟨b0,off+4+n1,none⟩) l2):=Lib.hid (fun W hW=>by rw [HL2.out];exact yaA (hb1.out W hW) n1 (by rw [List.length_drop];omega) rfl)
 have HW:=Lib.hid (ybB (some ⟨b0,off+4+n1,none⟩) c2 n k m wd len2 l2 w.drew.drew hl2 h1 h2 hlm hk hwd yvN (by have:=hs.out;omega) (hb2.out _ (Below.refl _ w).drew.drew))
 obtain ⟨G,HG⟩:∃ G,Hid (G=jl n (unG (rdB l2) wd m k)):=⟨_,rfl⟩
 have hGl:G.length≤1048576:=by rw [HG.out,yac,ycw];exact hk
 obtain ⟨rs,HRS⟩:∃ rs,Hid (rs=l2.drop s):=⟨_,rfl⟩
 have hrl:rs.length=len3:=by rw [HRS.out,List.length_drop,← hl2.out];omega
 have hb3:Hid (∀ W,Below w.heap.size w W→Bs W (if c2=s then some ⟨b0,off+4+n1,none⟩ else some ⟨b0,off+4+n1+s,none⟩) rs):=Lib.hid (fun W hW=>by
  split
  ·exact .inl (by rw [hrl];omega)
  ·rw [HRS.out];exact yaA (hb2.out W hW) s (by rw [← hl2.out];omega) rfl)
 rw [← HG.out] at HW
 rw [← HL2.out,← HG.out,← HRS.out]
 have hBd:Below w.heap.size w w.drew:=(Below.refl _ w).drew
 have yvO:Below w.heap.size w w.drew.drew:=hBd.drew
 have hwk:IntKind.i64.wrap (k:Int)=(k:Int):=by rw [IntKind.wrap_i64];omega
 have hww:IntKind.i64.wrap (wd:Int)=(wd:Int):=by rw [IntKind.wrap_i64];omega
 clear hn hb hll q0 q1 qc0 qc1 Q2 h2x
 go_enter Tryz.func164,Tryz.ntmps164
 go_wp2_with fail
 refine (HN4.out).mono ?_
 rintro e w' ⟨rfl,rfl⟩
 go_wp2_with fail
 refine wp_region_noPanic ?_
 refine wp_region_held_drew (S:=fun W'=>W'.cell? ⟨b0,off+4+n,none⟩=some (.int .u8 (wd:Int))) (by kernel_rfl) (hcw.out _ hBd) (fun hHeld=>?_)
 refine wpAnyH_take (i:=0) (v:=?v9) rfl (by kernel_rfl) (by kernel_rfl) (by kernel_rfl) (fun _ _ _ h=>h) (Or.inl ⟨by rfl,?hy9⟩) (by assumption) ?rest9
 case hy9 =>
  intro W' hSw
  obtain e9:=hSw
  go_simp
  with_reducible rfl
 simp only [List.getElem_toArray,List.getElem_cons_zero,Act.put,List.setIfInBounds_toArray,List.set_cons_zero,List.set_cons_succ]
 refine wpAnyH_take (i:=1) (v:=?v10) rfl (by kernel_rfl) (by kernel_rfl) (by kernel_rfl) (fun _ _ _ h=>h) (Or.inl ⟨by rfl,?hy10⟩) (by assumption) ?rest10
 case hy10=>
  intro W' hSw
  obtain e9:=hSw
  go_simp
  with_reducible rfl
 simp only [List.getElem_toArray,List.getElem_cons_zero,List.getElem_cons_succ,Act.put,List.setIfInBounds_toArray,List.set_cons_zero,List.set_cons_succ]
 refine wpAnyH_take (i:=2) (v:=?v11) rfl (by kernel_rfl) (by kernel_rfl) (by kernel_rfl) (fun _ _ _ h=>h) (Or.inl ⟨by rfl,?hy11⟩) (by assumption) ?rest11
 case hy11=>
  intro W' hSw
  obtain e9:=hSw
  go_simp
  with_reducible rfl
 simp only [List.getElem_toArray,List.getElem_cons_zero,List.getElem_cons_succ,Act.put,List.setIfInBounds_toArray,List.set_cons_zero,List.set_cons_succ]
 refine wpAnyH_take (i:=3) (v:=?v12) rfl (by kernel_rfl) (by kernel_rfl) (by kernel_rfl) (fun _ _ _ h=>h) (Or.inl ⟨by rfl,?hy12⟩) (by assumption) ?rest12
 case hy12=>
  intro W' hSw
  obtain e9:=hSw
  go_simp
  with_reducible rfl
 simp only [List.getElem_toArray,List.getElem_cons_zero,List.getElem_cons_succ,Act.put,List.setIfInBounds_toArray,List.set_cons_zero,List.set_cons_succ]
 refine wpAnyH_take (i:=4) (v:=?v13) rfl (by kernel_rfl) (by kernel_rfl) (by kernel_rfl) (fun _ _ _ h=>h) (Or.inl ⟨by rfl,?hy13⟩) (by assumption) ?rest13
 case hy13 =>
  intro W' hSw
  obtain e9:=hSw
  go_simp
  with_reducible rfl
 simp only [List.getElem_toArray,List.getElem_cons_zero,List.getElem_cons_succ,Act.put,List.setIfInBounds_toArray,List.set_cons_zero,List.set_cons_succ]
 refine wpAnyH_take (i:=6) (v:=?v14) rfl (by kernel_rfl) (by kernel_rfl) (by kernel_rfl) (fun _ _ _ h=>h) (Or.inl ⟨by rfl,?hy14⟩) (by assumption) ?rest14
 case hy14 =>
  intro W' hSw
  obtain e9:=hSw
  go_simp
  with_reducible rfl
 simp only [List.getElem_toArray,List.getElem_cons_zero,List.getElem_cons_succ,Act.put,List.setIfInBounds_toArray,List.set_cons_zero,List.set_cons_succ]
 refine wpAnyH_take (i:=7) (v:=?v15) rfl (by kernel_rfl) (by kernel_rfl) (by kernel_rfl) (fun _ _ _ h=>h) (Or.inl ⟨by rfl,?hy15⟩) (by assumption) ?rest15
 case hy15 =>
  intro W' hSw
  obtain e9:=hSw
  go_simp
  with_reducible rfl
 simp only [List.getElem_toArray,List.getElem_cons_zero,List.getElem_cons_succ,Act.put,List.setIfInBounds_toArray,List.set_cons_zero,List.set_cons_succ]
 refine wpAnyH_take (i:=8) (v:=?v16) rfl (by kernel_rfl) (by kernel_rfl) (by kernel_rfl) (fun _ _ _ h=>h) (Or.inl ⟨by rfl,?hy16⟩) (by assumption) ?rest16
 case hy16 =>
  intro W' hSw
  obtain e9:=hSw
  go_simp
  with_reducible rfl
 simp only [List.getElem_toArray,List.getElem_cons_zero,List.getElem_cons_succ,Act.put,List.setIfInBounds_toArray,List.set_cons_zero,List.set_cons_succ]
 refine wpAnyH_take (i:=9) (v:=?v17) rfl (by kernel_rfl) (by kernel_rfl) (by kernel_rfl) (fun _ _ _ h=>h) (Or.inl ⟨by rfl,?hy17⟩) (by assumption) ?rest17
 case hy17 =>
  intro W' hSw
  obtain e9:=hSw
  go_simp
  with_reducible rfl
 simp only [List.getElem_toArray,List.getElem_cons_zero,List.getElem_cons_succ,Act.put,List.setIfInBounds_toArray,List.set_cons_zero,List.set_cons_succ]
 refine wpAnyH_take (i:=10) (v:=?v18) rfl (by kernel_rfl) (by kernel_rfl) (by kernel_rfl) (fun _ _ _ h=>h) (Or.inl ⟨by rfl,?hy18⟩) (by assumption) ?rest18
 case hy18 =>
  intro W' hSw
  obtain e9:=hSw
  go_simp
  with_reducible rfl
 simp only [List.getElem_toArray,List.getElem_cons_zero,List.getElem_cons_succ,Act.put,List.setIfInBounds_toArray,List.set_cons_zero,List.set_cons_succ]
 refine wpAnyH_ready (rs:=[5]) (by kernel_rfl) (by simp) ?_
 refine AllReadyH.cons (i:=5) rfl (fun K hK=>?_) AllReadyH.nil
 go_simp
 refine (HNn.out _ hBd).mono ?_
 rintro e W' ⟨rfl,rfl⟩
 refine hK.out _ _ (hcw.out _ hBd) (fun hHeld=>?_)
 clear hK K
 refine wpAnyH_ready (rs:=[11]) (by kernel_rfl) (by simp) ?_
 refine AllReadyH.cons (i:=11) rfl (fun K hK=>?_) AllReadyH.nil
 go_simp
 refine hK.out _ _ (hcw.out _ hBd) (fun hHeld=>?_)
 clear hK K
 refine wpAnyH_ready (rs:=[12]) (by kernel_rfl) (by simp) ?_
 refine AllReadyH.cons (i:=12) rfl (fun K hK=>?_) AllReadyH.nil
 go_simp
 refine hK.out _ _ (hcw.out _ hBd) (fun hHeld=>?_)
 clear hK K
 refine wpAnyH_ready (rs:=[13]) (by kernel_rfl) (by simp) ?_
 refine AllReadyH.cons (i:=13) rfl (fun K hK=>?_) AllReadyH.nil
 go_simp
 refine hK.out _ _ (hcw.out _ hBd) (fun hHeld=>?_)
 clear hK K
 refine wpAnyH_done (by kernel_rfl) ?_ _
 refine NoPanic.normal ?_
 clear hHeld
 go_wp2_with fail
 (try rw [hsz])
 refine wp_region_noPanic ?_
 refine wp_region_held_drew (S:=fun _=>True) (by kernel_rfl) trivial (fun hHeld=>?_)
 refine wpAnyH_take (i:=0) (v:=?v1) rfl (by kernel_rfl) (by kernel_rfl) (by kernel_rfl) (fun _ _ _ h=>h) (Or.inl ⟨by rfl,?hy1⟩) (by assumption) ?rest1
 case hy1 =>
  intro W' hSw
  obtain _:=hSw
  go_simp
  with_reducible rfl
 simp only [List.getElem_toArray,List.getElem_cons_zero,Act.put,List.setIfInBounds_toArray,List.set_cons_zero,List.set_cons_succ]
 refine wpAnyH_take (i:=1) (v:=?v2) rfl (by kernel_rfl) (by kernel_rfl) (by kernel_rfl) (fun _ _ _ h=>h) (Or.inl ⟨by rfl,?hy2⟩) (by assumption) ?rest2
 case hy2 =>
  intro W' hSw
  obtain _:=hSw
  go_simp
  with_reducible rfl
 simp only [List.getElem_toArray,List.getElem_cons_zero,List.getElem_cons_succ,Act.put,List.setIfInBounds_toArray,List.set_cons_zero,List.set_cons_succ]
 refine wpAnyH_take (i:=2) (v:=?v3) rfl (by kernel_rfl) (by kernel_rfl) (by kernel_rfl) (fun _ _ _ h=>h) (Or.inl ⟨by rfl,?hy3⟩) (by assumption) ?rest3
 case hy3 =>
  intro W' hSw
  obtain _:=hSw
  go_simp
  with_reducible rfl
 simp only [List.getElem_toArray,List.getElem_cons_zero,List.getElem_cons_succ,Act.put,List.setIfInBounds_toArray,List.set_cons_zero,List.set_cons_succ]
 refine wpAnyH_take (i:=3) (v:=?v4) rfl (by kernel_rfl) (by kernel_rfl) (by kernel_rfl) (fun _ _ _ h=>h) (Or.inl ⟨by rfl,?hy4⟩) (by assumption) ?rest4
 case hy4 =>
  intro W' hSw
  obtain _:=hSw
  go_simp
  with_reducible rfl
 simp only [List.getElem_toArray,List.getElem_cons_zero,List.getElem_cons_succ,Act.put,List.setIfInBounds_toArray,List.set_cons_zero,List.set_cons_succ]
 refine wpAnyH_take (i:=4) (v:=?v5) rfl (by kernel_rfl) (by kernel_rfl) (by kernel_rfl) (fun _ _ _ h=>h) (Or.inl ⟨by rfl,?hy5⟩) (by assumption) ?rest5
 case hy5 =>
  intro W' hSw
  obtain _:=hSw
  go_simp
  with_reducible rfl
 simp only [List.getElem_toArray,List.getElem_cons_zero,List.getElem_cons_succ,Act.put,List.setIfInBounds_toArray,List.set_cons_zero,List.set_cons_succ]
 refine wpAnyH_take (i:=6) (v:=?v6) rfl (by kernel_rfl) (by kernel_rfl) (by kernel_rfl) (fun _ _ _ h=>h) (Or.inl ⟨by rfl,?hy6⟩) (by assumption) ?rest6
 case hy6 =>
  intro W' hSw
  obtain _:=hSw
  go_simp
  with_reducible rfl
 simp only [List.getElem_toArray,List.getElem_cons_zero,List.getElem_cons_succ,Act.put,List.setIfInBounds_toArray,List.set_cons_zero,List.set_cons_succ]
 refine wpAnyH_take (i:=7) (v:=?v7) rfl (by kernel_rfl) (by kernel_rfl) (by kernel_rfl) (fun _ _ _ h=>h) (Or.inl ⟨by rfl,?hy7⟩) (by assumption) ?rest7
 case hy7 =>
  intro W' hSw
  obtain _:=hSw
  go_simp
  with_reducible rfl
 simp only [List.getElem_toArray,List.getElem_cons_zero,List.getElem_cons_succ,Act.put,List.setIfInBounds_toArray,List.set_cons_zero,List.set_cons_succ]
 refine wpAnyH_take (i:=8) (v:=?v8) rfl (by kernel_rfl) (by kernel_rfl) (by kernel_rfl) (fun _ _ _ h=>h) (Or.inl ⟨by rfl,?hy8⟩) (by assumption) ?rest8
 case hy8 =>
  intro W' hSw
  obtain _:=hSw
  go_simp
  with_reducible rfl
 simp only [List.getElem_toArray,List.getElem_cons_zero,List.getElem_cons_succ,Act.put,List.setIfInBounds_toArray,List.set_cons_zero,List.set_cons_succ]
 refine wpAnyH_ready (rs:=[5]) (by kernel_rfl) (by simp) ?_
 refine AllReadyH.cons (i:=5) rfl (fun K hK=>?_) AllReadyH.nil
 go_simp
 refine (HW.out).mono ?_
 rintro e W2 ⟨v2,rfl,hg2⟩
 have G2:=Lib.hid hg2
 have hB2:Hid (Below w.heap.size w W2):=Lib.hid (yvO.trans (hg2.below (Nat.le_refl _) (by intro k hk;cases hk)))
 have hb3W:=Lib.hid (hb3.out W2 hB2.out)
 clear hg2
 refine hK.out _ _ (trivial) (fun hHeld=>?_)
 clear hK K
 refine wpAnyH_ready (rs:=[9]) (by kernel_rfl) (by simp) ?_
 refine AllReadyH.cons (i:=9) rfl (fun K hK9=>?_) AllReadyH.nil
 rw [if_pos (by rfl)]
 refine uQ (.tmp 64) (.tmp 67) rfl w.heap.size v2 G.length G rfl rfl G2.out.own _ _ _ rs rfl (by first|exact hrl|(rw [hrl];omega)) hb3W.out (by omega) hB2.out.size ?_
 intro v5 W5 hg5
 obtain ⟨p5,c5,rfl,hs5,hd5⟩:=zE hg5.own
 have hnc:=ybe hg5.own
 have yD:Hid (ybD (G++rs) w (.returned (.tuple #[.slice p5 (G++rs).length c5,.bool true])) W5):=Lib.hid ⟨hB2.out.trans (hg5.below hB2.out.size (fun k e=>GR G2.out.own e)),p5,c5,rfl,Lib.hid hd5,Lib.hid hnc,hs5⟩
 obtain ⟨m5,HM5⟩:∃ m5,Hid (m5=(G++rs).length):=⟨_,rfl⟩
 rw [← HM5.out] at yD ⊢
 clear hg5 hs5 hd5 hnc
 refine hK9.out _ _ trivial (fun hHeld=>?_)
 clear hK9 K
 simp only [List.getElem_toArray,List.getElem_cons_zero,List.getElem_cons_succ,Act.put,List.setIfInBounds_toArray,List.set_cons_zero,List.set_cons_succ]
 refine wpAnyH_ready (rs:=[10]) (by kernel_rfl) (by simp) ?_
 refine AllReadyH.cons (i:=10) rfl (fun K hK=>?_) AllReadyH.nil
 go_simp
 refine hK.out _ _ (trivial) (fun hHeld=>?_)
 clear hK K
 refine wpAnyH_ready (rs:=[11]) (by kernel_rfl) (by simp) ?_
 refine AllReadyH.cons (i:=11) rfl (fun K hK=>?_) AllReadyH.nil
 go_simp
 refine hK.out _ _ (trivial) (fun hHeld=>?_)
 clear hK K
 refine wpAnyH_done (by kernel_rfl) ?_ _
 refine NoPanic.normal ?_
 clear hHeld
 go_wp2_with fail
 all_goals (go_ret2;exact yD.out)
end
end Go.Proofs.YtgepehlpjpccaaaGreatDoor
