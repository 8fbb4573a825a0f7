/- Contracts. -/
import Derived.Test.YtgepehlpjpccaaaGreatDoorKB
set_option maxHeartbeats 4000000
set_option maxRecDepth 100000
namespace Go.Proofs.YtgepehlpjpccaaaGreatDoor
open Go.RowKit
open Go.Lib
def orB (c:UInt8) (r:Nat):UInt8:=UInt8.ofNat (c.toNat ||| 2^r)
theorem yin (c:UInt8) {r:Nat} (h:r<8):(orB c r).toNat=c.toNat ||| 2^r:=by
 unfold orB
 have h1:c.toNat<2^8:=c.toNat_lt
 have h2:2^r<2^8:=Nat.pow_lt_pow_right (by omega) h
 rw [UInt8.toNat_ofNat',Nat.mod_eq_of_lt (Nat.or_lt_two_pow h1 h2)]
def stP (xs:List (List UInt8)) (P:Nat):Nat→List UInt8
 | 0=>List.replicate P 0
 | i+1=>if xs.getD i []=[] then stP xs P i else (stP xs P i).set (i/8) (orB ((stP xs P i).getD (i/8) 0) (i%8))
theorem uK (xs:List (List UInt8)) (P:Nat):∀ i,(stP xs P i).length=P
 | 0=>by simp [stP]
 | i+1=>by
  rw [stP]
  split
  ·exact uK xs P i
  ·rw [List.length_set];exact uK xs P i
def els (k:Int) (xs:List (List UInt8)) (i:Nat):List UInt8:=(xs.take i).flatMap (uL k)
theorem yio {k:Int} {x:List UInt8} (h:uB k x=true):(uL k x).length≤83:=by
 unfold uL
 have h1:=yd9 h
 have h2:=yd8 k
 split
 ·split
  ·simp
  ·rw [List.length_cons];omega
 ·rw [jI];omega
theorem yuK {xs:List (List UInt8)} {i:Nat} (h:i<xs.length):xs.take (i+1)=xs.take i++[xs.getD i []]:=by
 rw [List.take_succ_eq_append_getElem h,List.getD_eq_getElem?_getD,List.getElem?_eq_getElem h];rfl
theorem yk6 {k:Int} {xs:List (List UInt8)} {i:Nat} (h:i<xs.length):els k xs (i+1)=els k xs i++uL k (xs.getD i []):=by
 unfold els
 rw [yuK h,List.flatMap_append];simp
theorem yjg {k:Int} {xs:List (List UInt8)} (hf:∀ x ∈ xs,uB k x=true):∀ i,i≤xs.length→(els k xs i).length≤83*i
 | 0,_=>by simp [els]
 | i+1,h=>by
  have h1:=yjg hf i (by omega)
  rw [yk6 (by omega),List.length_append]
  have h2:=yio (hf (xs.getD i []) (by rw [List.getD_eq_getElem?_getD,List.getElem?_eq_getElem (by omega)];exact List.getElem_mem _))
  omega
def yby (k:Int) (xs:List (List UInt8)) (i:Nat):List UInt8:=stP xs ((xs.length+7)/8) i++els k xs i
def yat (k:Int) (xs:List (List UInt8)):List UInt8:=yby k xs xs.length
structure PutG (w:World) (L:List UInt8) (wr:World) (v:Value):Prop where
 own:wr.ownsRow w.heap.size 5 1 v L.length (zS L)
 below:Below w.heap.size w wr
theorem GR {W:World} {B n:Nat} {v:Value} {xs:List Value} {g0:Nat} (h:W.ownsRow B 5 1 v n xs) (e:v.ownBlock=some g0):B≤g0:=by
 obtain ⟨-,⟨rfl,-⟩|⟨g,cap,cur,rfl,hg,-⟩⟩:=h
 ·cases e
 ·cases e;exact hg
theorem PutG.next {w W w':World} {v v':Value} {L L':List UInt8} (h:PutG w L W v) (hg:Gro w.heap.size W v L' w' v'):PutG w L' w' v' :=
 ⟨hg.own,h.below.grown hg.grown h.below.size (fun _ e=>GR h.own e)⟩
theorem ywt (P:Nat):zS (List.replicate P 0)=(madeCells #[Value.int .u8 0] P).toList:=by
 apply List.ext_getElem
 ·simp [zS,madeCells]
 ·intro i h1 h2
  simp [zS,madeCells,Nat.mod_one]
theorem yuL (k:Int) (p:Option Addr) (c n:Nat) (xs:List (List UInt8)) (w:World) (hx:Hid (xs.length=n)) (hn:n≤4096) (hs:Ss w p xs) (he:Env w) (z:Int) (HZ:Hid (uA k xs=z)) (hz:z≠0) :
  Calls Tryz.prog 34 #[.int .i64 k,.slice p n c] w fun e w'=>e=.returned (.tuple #[.slice none 0 0,.int .i64 z])∧Below w.heap.size w w':=by
 have HC:=Lib.hid (ycv k p c n xs w hx hn hs he)
 rw [HZ.out] at HC
 clear hs he
 have gz:(z != 0)=true:=by rw [bne_iff_ne];exact hz
 go_enter Tryz.func34,Tryz.ntmps34
 go_wp2_with fail
 refine (HC.out).mono ?_
 rintro e w1 ⟨rfl,hb1⟩
 have zG:=Lib.hid hb1
 clear hb1
 go_wp2_with fail
 go_ret2
 exact ⟨rfl,zG.out⟩
theorem ygu (k:Int) (p:Option Addr) (c n:Nat) (xs:List (List UInt8)) (w:World) (hx:Hid (xs.length=n)) (hn:n≤4096) (hs:Ss w p xs) (he:Env w) (HZ:Hid (uA k xs=0)) :
  Calls Tryz.prog 34 #[.int .i64 k,.slice p n c] w fun e w'=>∃ v,e=.returned (.tuple #[v,.int .i64 0])∧PutG w (yat k xs) w' v:=by
 have HS:=Lib.hid hs
 have HE:=Lib.hid he
 have HC:=Lib.hid (ycv k p c n xs w hx hn hs he)
 rw [HZ.out] at HC
 clear hs he
 have hk:isT k=true∧xs.all (uB k)=true:=by
  have h:=HZ.out
  unfold uA at h
  by_cases h1:isT k=false
  ·rw [if_pos h1] at h;cases h
  ·rw [if_neg h1] at h
   by_cases h2:xs.all (uB k)=false
   ·rw [if_pos h2] at h;cases h
   ·exact ⟨by simpa using h1,by simpa using h2⟩
 have HK1:Hid (1≤k∧k≤5):=Lib.hid (by
  have h:=hk.1
  unfold isT at h
  rw [Bool.and_eq_true,decide_eq_true_eq,decide_eq_true_eq] at h
  exact h)
 have HFA:Hid (∀ x ∈ xs,uB k x=true):=Lib.hid (List.all_eq_true.1 hk.2)
 obtain ⟨P,HPD⟩:∃ P,Hid ((n+7)/8=P):=⟨_,rfl⟩
 have yv5:Hid ((xs.length+7)/8=P):=Lib.hid (by rw [hx.out];exact HPD.out)
 have hP:P≤512:=by have:=HPD.out;omega
 have hPi:((n:Int)+7)/8=(P:Int):=by have:=HPD.out;omega
 have hni:(n:Int)≤4096:=by omega
 have HPR:=Lib.hid (fun W=>ycF n hni W)
 rw [hPi] at HPR
 obtain ⟨i0,hi,hz0,hz1,hz2⟩:=info_parts ya6
 clear hk hPi
 go_enter Tryz.func34,Tryz.ntmps34
 go_wp2_with fail
 refine (HC.out).mono ?_
 rintro e w1 ⟨rfl,hb1⟩
 have zG:=Lib.hid hb1
 clear hb1
 go_wp2_with fail
 refine (HPR.out _).mono ?_
 rintro e w' ⟨rfl,rfl⟩
 go_wp2_with (at_make;refine wpList_make_full _ rfl _ _ 39 rfl w.heap.size 5 i0 (.int .u8 0) 1 Tryz.underlying39 hi hz0 hz1 _ _ _ _ P rfl rfl (by rfl) (by rfl) ?b2 ?b3 zG.out.size ?_)
 case b2=>rw [hz2];omega
 case b3=>unfold maxLen;omega
 intro w2 yW zC
 have HP0:Hid (PutG w (yby k xs 0) w2 (.slice (some ⟨w1.heap.size,0,none⟩) P P)):=Lib.hid (by
  have e:yby k xs 0=List.replicate P 0:=by unfold yby els;rw [yv5.out];simp [stP]
  rw [e]
  refine ⟨?_,zG.out.grown zC zG.out.size (fun _ h=>by cases h)⟩
  rw [ywt,List.length_replicate]
  exact yW)
 clear yW zC
 go_wp2_with fail
 go_loopw [7,22] (fun v iv wr=>∃ i:Nat,i≤n∧iv=.int .i64 i∧Hid (PutG w (yby k xs i) wr v)) (fun _ iv _=>n-(intOf iv).toNat)
 case atStart=>exact ⟨0,Nat.zero_le _,rfl,HP0⟩
 case round =>
  obtain ⟨i,hi9,rfl,HK⟩:=hrel
  have ii:(i:Int)≤(n:Int):=by omega
  by_cases hlt:i<n
  ·have ilt:(i:Int)<(n:Int):=by omega
   have hil:i<xs.length:=by rw [hx.out];exact hlt
   obtain ⟨b1,o1,x,e1,hb1,hc1,hxx⟩:=(HS.out.below HK.out.below).at hil
   subst e1
   have HF:Hid (uB k x=true):=Lib.hid (HFA.out x (by rw [← hxx.out,List.getD_eq_getElem?_getD,List.getElem?_eq_getElem hil];exact List.getElem_mem _))
   have HEL:Hid (P+(els k xs i).length≤100000000):=Lib.hid (by have:=yjg HFA.out i (by omega);omega)
   have HNX:Hid (yby k xs (i+1)=stP xs P (i+1)++(els k xs i++uL k x)):=Lib.hid (by
    unfold yby;rw [yk6 hil,hxx.out,yv5.out])
   have HCU:Hid (yby k xs i=stP xs P i++els k xs i):=Lib.hid (by unfold yby;rw [yv5.out])
   by_cases hxe:x=[]
   ·subst hxe
    have HP1:Hid (PutG w (stP xs P (i+1)++els k xs i) wr u7):=Lib.hid (by
     rw [stP,if_pos hxx.out,← HCU.out];exact HK.out)
    clear hil hb1
    by_cases h5:k=5
    ·have g5:(k==5)=true:=by simpa using h5
     have H5:=Lib.hid h5
     clear h5
     have HA:Hid (Calls Tryz.prog 76 #[u7,.string ⟨#[]⟩] wr (yiI w.heap.size wr u7 (yby k xs (i+1)))):=Lib.hid (by
      have:=yde w.heap.size u7 (stP xs P (i+1)++els k xs i) [] wr (yd9 HF.out) (by rw [List.length_append,uK];have:=HEL.out;omega) HP1.out.below.size HP1.out.own
      rw [HNX.out]
      unfold uL
      rw [if_pos H5.out,← List.append_assoc]
      exact this)
     go_wp2_with fail
     refine (HA.out).mono ?_
     rintro e w3 ⟨v3,rfl,hg3⟩
     have HP3:=Lib.hid (HP1.out.next hg3)
     clear hg3
     go_wp2_with fail
     go_roundw
     case rel=>exact ⟨i+1,by omega,by go_num,HP3⟩
     case measure=>simp [intOf];omega
    ·have g5:(k==5)=false:=by simpa using h5
     have H5:=Lib.hid h5
     clear h5
     have HA:Hid (Calls Tryz.prog 77 #[u7,.string ⟨#[]⟩,.int .i64 (vA k:Int)] wr (yiI w.heap.size wr u7 (yby k xs (i+1)))):=Lib.hid (by
      have:=ybS w.heap.size u7 k (stP xs P (i+1)++els k xs i) [] wr HF.out HK1.out.1 (by have:=HK1.out.2;have:=H5.out;omega) (by rw [List.length_append,uK];have:=HEL.out;omega) HP1.out.below.size HP1.out.own (HE.out.below HP1.out.below)
      rw [HNX.out,← List.append_assoc]
      exact this)
     go_wp2_with fail
     refine (yb8 k _).mono ?_
     rintro e w' ⟨rfl,rfl⟩
     go_wp2_with fail
     refine (HA.out).mono ?_
     rintro e w3 ⟨v3,rfl,hg3⟩
     have HP3:=Lib.hid (HP1.out.next hg3)
     clear hg3
     go_wp2_with fail
     go_roundw
     case rel=>exact ⟨i+1,by omega,by go_num,HP3⟩
     case measure=>simp [intOf];omega
   ·have hxb:x.isEmpty=false:=by
     cases x with
     | nil=>exact absurd rfl hxe
     | cons=>rfl
    have hi8:i/8<P:=by have:=HPD.out;omega
    obtain ⟨j,HJ⟩:∃ j,Hid (i/8=j):=⟨_,rfl⟩
    obtain ⟨r,HR⟩:∃ r,Hid (i%8=r):=⟨_,rfl⟩
    have hr8:r<8:=by have:=HR.out;omega
    rw [HJ.out] at hi8
    have hjl:j<(yby k xs i).length:=by rw [HCU.out,List.length_append,uK];omega
    obtain ⟨g,cap,hv5,hcap,hg,hgl,vH,yb6,yfb⟩:=yi7 HK.out.own (by omega)
    subst hv5
    have gc:=vH j hjl
    have gf:=yb6 j
    obtain ⟨M,HM⟩:∃ M,Hid ((yby k xs i).length=M):=⟨_,rfl⟩
    rw [HM.out] at hjl yfb HK ⊢
    obtain ⟨c0,HC0⟩:∃ c0,Hid ((yby k xs i).getD j 0=c0):=⟨_,rfl⟩
    rw [HC0.out] at gc
    obtain ⟨y,HY⟩:∃ y,Hid (orB c0 r=y):=⟨_,rfl⟩
    have hor:bits .or .u8 (c0.toNat:Int) (2^r%256)=((y.toNat:Nat):Int):=by
     have h2:2^r<2^8:=Nat.pow_lt_pow_right (by omega) hr8
     have e:(2:Int)^r%256=((2^r:Nat):Int):=by
      have e0:(2:Int)^r=((2^r:Nat):Int):=by simp
      have h3:2^r<256:=h2
      rw [e0]
      generalize 2^r=t at h3
      omega
     rw [e,u8_or_nat _ _ c0.toNat_lt h2,← HY.out,yin c0 hr8]
    obtain ⟨W1,vK⟩:∃ W1,Hid ((wr.setCell ⟨g,j,none⟩ (.int .u8 (y.toNat:Int))).drew=W1):=⟨_,rfl⟩
    have HP1:Hid (PutG w (stP xs P (i+1)++els k xs i) W1 (.slice (some ⟨g,0,none⟩) M cap)):=Lib.hid (by
     have e1:(yby k xs i).set j y=stP xs P (i+1)++els k xs i:=by
      have hjs:j<(stP xs P i).length:=by rw [uK];exact hi8
      rw [HCU.out,List.set_append_left _ _ hjs,stP,if_neg (by rw [hxx.out];exact hxe),HJ.out,HR.out,← HY.out,← HC0.out,HCU.out]
      congr 3
      rw [List.getD_eq_getElem?_getD,List.getD_eq_getElem?_getD,List.getElem?_append_left hjs]
     have e2:(stP xs P (i+1)++els k xs i).length=M:=by rw [← e1,List.length_set,HM.out]
     refine ⟨?_,?_⟩
     ·rw [e2,← e1,← vK.out];exact yfb j y hjl
     ·rw [← vK.out];exact (HK.out.below.setCell hg _).drew)
    have ijM:(j:Int)<(M:Int):=by omega
    have ij5:(j:Int)≤512:=by omega
    have hdi:(i:Int)/8=(j:Int):=by have:=HJ.out;omega
    have hmi:(i:Int)%8=(r:Int):=by have:=HR.out;omega
    clear hil hb1
    go_wp2_with fail
    go_region
    rw [vK.out]
    clear hor gc gf vH yb6 yfb hdi hmi
    by_cases h5:k=5
    ·have g5:(k==5)=true:=by simpa using h5
     have H5:=Lib.hid h5
     clear h5
     have HA:Hid (Calls Tryz.prog 76 #[(.slice (some ⟨g,0,none⟩) M cap),.string ⟨x.toArray⟩] W1 (yiI w.heap.size W1 (.slice (some ⟨g,0,none⟩) M cap) (yby k xs (i+1)))):=Lib.hid (by
      have:=yde w.heap.size (.slice (some ⟨g,0,none⟩) M cap) (stP xs P (i+1)++els k xs i) x W1 (yd9 HF.out) (by rw [List.length_append,uK];have:=HEL.out;omega) HP1.out.below.size HP1.out.own
      rw [HNX.out]
      unfold uL
      rw [if_pos H5.out,← List.append_assoc]
      exact this)
     go_wp2_with fail
     refine (HA.out).mono ?_
     rintro e w3 ⟨v3,rfl,hg3⟩
     have HP3:=Lib.hid (HP1.out.next hg3)
     clear hg3
     go_wp2_with fail
     go_roundw
     case rel=>exact ⟨i+1,by omega,by go_num,HP3⟩
     case measure=>simp [intOf];omega
    ·have g5:(k==5)=false:=by simpa using h5
     have H5:=Lib.hid h5
     clear h5
     have HA:Hid (Calls Tryz.prog 77 #[(.slice (some ⟨g,0,none⟩) M cap),.string ⟨x.toArray⟩,.int .i64 (vA k:Int)] W1 (yiI w.heap.size W1 (.slice (some ⟨g,0,none⟩) M cap) (yby k xs (i+1)))):=Lib.hid (by
      have:=ybS w.heap.size (.slice (some ⟨g,0,none⟩) M cap) k (stP xs P (i+1)++els k xs i) x W1 HF.out HK1.out.1 (by have:=HK1.out.2;have:=H5.out;omega) (by rw [List.length_append,uK];have:=HEL.out;omega) HP1.out.below.size HP1.out.own (HE.out.below HP1.out.below)
      rw [HNX.out,← List.append_assoc]
      exact this)
     go_wp2_with fail
     refine (yb8 k _).mono ?_
     rintro e w' ⟨rfl,rfl⟩
     go_wp2_with fail
     refine (HA.out).mono ?_
     rintro e w3 ⟨v3,rfl,hg3⟩
     have HP3:=Lib.hid (HP1.out.next hg3)
     clear hg3
     go_wp2_with fail
     go_roundw
     case rel=>exact ⟨i+1,by omega,by go_num,HP3⟩
     case measure=>simp [intOf];omega
  ·obtain rfl:i=n:=by omega
   have ilt:¬ (i:Int)<(i:Int):=by omega
   have uW:Hid (PutG w (yat k xs) wr u7):=Lib.hid (by unfold yat;rw [hx.out];exact HK.out)
   go_wp2_with fail
   go_ret2
   exact ⟨_,rfl,uW.out⟩
def yq7:Nat→List UInt8
 | 0=>[0]
 | 1=>[1,0,1]
 | 2=>[1,0,1,0,0]
 | _=>[5,0,1,0,0,255,254]
structure PutAt (w:World) (k:Nat) (wr:World) (v:Value):Prop where
 own:wr.ownsRow w.heap.size 5 1 v (yq7 k).length (zS (yq7 k))
 below:Below w.heap.size w wr
theorem PutAt.next {w W w':World} {v v':Value} {k:Nat} (hB:Below w.heap.size w W) (hv:∀ j,v.ownBlock=some j→w.heap.size≤j) (hg:Grew w.heap.size W v (yq7 k) w' v'):PutAt w k w' v' :=
 ⟨hg.own,hB.grown hg.grown hB.size hv⟩
end Go.Proofs.YtgepehlpjpccaaaGreatDoor
set_option maxHeartbeats 2000000
set_option maxRecDepth 100000
namespace Go.Proofs.YtgepehlpjpccaaaGreatDoor
open Go.RowKit
open Go.Lib
theorem add_lit (b off j:Nat):(⟨b,off,none⟩:Addr).add j=⟨b,off+j,none⟩:=by
 cases j<;>simp [Addr.add]
theorem ybu (w:World) (p:Option Addr) (c:Nat) (l:List UInt8) (h:Bs w p l):(convert 39 9 (.slice p l.length c)).run Tryz.prog w=.ok (.string ⟨l.toArray⟩) w:=by
 rcases h with h0|⟨b,off,rfl,hb,hc⟩
 ·obtain rfl:=List.eq_nil_of_length_eq_zero h0
  cases p with
  | some a=>exact run_convert_bytes_back w 39 9 5 a c [] Tryz.underlying39 Tryz.underlying5 Tryz.underlying9 (fun j hj=>by simp at hj)
  | none =>
   show (convert 39 9 (.slice none 0 c)).run Tryz.prog w=_
   rw [run_convert_bytes_string w 39 9 5 none 0 c Tryz.underlying39 Tryz.underlying5 Tryz.underlying9]
   simp [Conv.bytesToString]
   try rfl
 ·refine run_convert_bytes_back w 39 9 5 ⟨b,off,none⟩ c l Tryz.underlying39 Tryz.underlying5 Tryz.underlying9 (fun j hj=>?_)
  rw [add_lit,hc j hj,List.getD_eq_getElem?_getD,List.getElem?_eq_getElem hj];rfl
theorem ycN (p q:Option Addr) (c d m:Nat) (l:List UInt8) (w:World) (hm:Hid (l.length=m)) (hp:Bs w p l) (hq:Bs w q l) :
  Calls Tryz.prog 60 #[.slice p m c,.slice q m d] w fun r w'=>r=.returned (.bool true)∧w=w':=by
 have h1:=ybu w p c l hp
 have h2:=ybu w q d l hq
 obtain ⟨X,HX⟩:∃ X:ByteArray,Hid (⟨l.toArray⟩=X):=⟨_,rfl⟩
 rw [hm.out,HX.out] at h1 h2
 clear hp hq
 go_enter Tryz.func60,Tryz.ntmps60
 go_wp2_with fail
 go_ret
 exact ⟨rfl,rfl⟩
theorem ycZ (W:World) (g k:Nat) (v:Value) (cs:Array Value) (t:TypeId) (h:W.heap[g]?=some (.cells cs t (0,0))):(W.setCell ⟨g,k,none⟩ v).heap[g]?=some (.cells (cs.setIfInBounds k v) t (0,0)):=by
 obtain ⟨h1,h2⟩:=Array.getElem?_eq_some_iff.1 h
 unfold World.setCell
 rw [Array.getElem?_eq_getElem (by simpa using h1),Array.getElem_modify]
 simp [h2]
def ybz (W:World) (V n i:Nat) (xs:List (List UInt8)):Prop:=∃ cs:Array Value,W.heap[V]?=some (.cells cs 9 (0,0))∧cs.size=n∧∀ j,j<n→cs[j]?=some (.string (if j<i then ⟨(xs.getD j []).toArray⟩ else ⟨#[]⟩))
theorem ybz.put {W:World} {V n i:Nat} {xs:List (List UInt8)} (h:ybz W V n i xs) (hi:i<n):ybz (W.setCell ⟨V,i,none⟩ (.string ⟨(xs.getD i []).toArray⟩)) V n (i+1) xs:=by
 obtain ⟨cs,h1,h2,h3⟩:=h
 refine ⟨_,ycZ W V i _ _ _ h1,by simp [h2],fun j hj=>?_⟩
 rw [Array.getElem?_setIfInBounds]
 by_cases e:i=j
 ·subst e
  rw [if_pos rfl,if_pos (by rw [h2];exact hi),if_pos (Nat.lt_succ_self _)]
 ·rw [if_neg e,h3 j hj]
  congr 2
  by_cases h4:j<i
  ·rw [if_pos h4,if_pos (by omega)]
  ·rw [if_neg h4,if_neg (by omega)]
theorem ybz.skip {W:World} {V n i:Nat} {xs:List (List UInt8)} (h:ybz W V n i xs) (e:xs.getD i []=[]):ybz W V n (i+1) xs:=by
 obtain ⟨cs,h1,h2,h3⟩:=h
 refine ⟨cs,h1,h2,fun j hj=>?_⟩
 rw [h3 j hj]
 congr 2
 by_cases h4:j<i
 ·rw [if_pos h4,if_pos (by omega)]
 ·rw [if_neg h4]
  by_cases h5:j=i
  ·subst h5;rw [if_pos (Nat.lt_succ_self _),e]
  ·rw [if_neg (by omega)]
theorem ybz.keep {W W':World} {V n i:Nat} {xs:List (List UInt8)} (h:ybz W V n i xs) (e:W'.heap[V]?=W.heap[V]?):ybz W' V n i xs:=by
 obtain ⟨cs,h1,h2⟩:=h
 exact ⟨cs,e.trans h1,h2⟩
theorem ybz.reads {W:World} {V n:Nat} {xs:List (List UInt8)} (h:ybz W V n n xs) (hx:xs.length=n):Ss W (some ⟨V,0,none⟩) xs:=by
 obtain ⟨cs,h1,h2,h3⟩:=h
 refine .inr ⟨V,0,rfl,(Array.getElem?_eq_some_iff.1 h1).1,fun j hj=>?_⟩
 have h4:=h3 j (by omega)
 rw [if_pos (by omega)] at h4
 rw [Nat.zero_add]
 simp [World.cell?,h1,h4]
theorem ybz.old {W:World} {V n i:Nat} {xs:List (List UInt8)} (h:ybz W V n i xs) (hi:i<n):W.cell? ⟨V,i,none⟩=some (.string ⟨#[]⟩)∧W.frozen? ⟨V,i,none⟩=false:=by
 obtain ⟨cs,h1,h2,h3⟩:=h
 have h4:=h3 i hi
 rw [if_neg (by omega)] at h4
 exact ⟨by simp [World.cell?,h1,h4],by simp [World.frozen?,h1]⟩
theorem ywu:(Tryz.prog.info? 9).map (fun i=>(i.zero,i.size,i.bytes))=some (some (.string ⟨#[]⟩),1,16):=by kernel_rfl
theorem yip (n:Nat) (hn:n≤10000):∃ Z:Array Value,(Z.size=n∧∀ j,j<n→Z[j]?=some (.string ⟨#[]⟩))∧∀ W,(Instr.makeSlice 30 (.int .i64 (n:Int)) (.int .i64 (n:Int))).run Tryz.prog W=.ok (.slice (some ⟨W.heap.size,0,none⟩) n n) (W.alloc (.cells Z 9)):=by
 obtain ⟨i0,hi,hz0,hz1,hz2⟩:=info_parts ywu
 refine ⟨madeCells (Value.cells (.string ⟨#[]⟩)) (n*1),⟨by rw [size_madeCells,Nat.mul_one],fun j hj=>by simp [madeCells,Value.cells,Nat.mod_one,hj]⟩,fun W=>?_⟩
 have h:=run_make (P:=Tryz.prog) W 30 9 i0 (.string ⟨#[]⟩) Tryz.underlying30 hi hz0 .i64 .i64 (n:Int) (n:Int) (by omega) (by omega) (by rw [hz2];omega) (by omega)
 rw [hz1,Int.toNat_natCast] at h
 exact h
abbrev Sg:=Int × Int × List UInt8
def RdG (w:World) (p:Option Addr) (l:List Sg):Prop:=l.length=0∨∃ b off,p=some ⟨b,off,none⟩∧b<w.heap.size∧∀ j,j<l.length→w.cell? ⟨b,off+j*3,none⟩=some (.int .i64 (l.getD j (0,0,[])).1)∧w.cell? ⟨b,off+j*3+1,none⟩=some (.int .i64 (l.getD j (0,0,[])).2.1)∧w.cell? ⟨b,off+j*3+2,none⟩=some (.string ⟨(l.getD j (0,0,[])).2.2.toArray⟩)
theorem RdG.below {w w':World} {p:Option Addr} {l:List Sg} (h:RdG w p l) (hb:Below w.heap.size w w'):RdG w' p l:=h.imp id fun ⟨b,off,h1,h2,h3⟩ =>
 ⟨b,off,h1,Nat.lt_of_lt_of_le h2 hb.size,fun j hj=>⟨(hb.cell (p:=⟨b,off+j*3,none⟩) h2).trans (h3 j hj).1,(hb.cell (p:=⟨b,off+j*3+1,none⟩) h2).trans (h3 j hj).2.1,(hb.cell (p:=⟨b,off+j*3+2,none⟩) h2).trans (h3 j hj).2.2⟩⟩
theorem RdG.at {w:World} {p:Option Addr} {l:List Sg} (h:RdG w p l) {k:Nat} (hk:k<l.length):∃ b off x y z,p=some ⟨b,off,none⟩∧b<w.heap.size∧w.cell? ⟨b,off+k*3,none⟩=some (.int .i64 x)∧w.cell? ⟨b,off+k*3+1,none⟩=some (.int .i64 y)∧w.cell? ⟨b,off+k*3+2,none⟩=some (.string ⟨(z:List UInt8).toArray⟩)∧Hid (l.getD k (0,0,[])=(x,y,z)):=by
 rcases h with h0|⟨b,off,h1,h2,h3⟩
 ·omega
 ·exact ⟨b,off,_,_,_,h1,h2,(h3 k hk).1,(h3 k hk).2.1,(h3 k hk).2.2,Lib.hid rfl⟩
end Go.Proofs.YtgepehlpjpccaaaGreatDoor
set_option maxRecDepth 100000
set_option maxHeartbeats 800000
namespace Big
end Big
namespace Go.Proofs.YtgepehlpjpccaaaGreatDoor
open Go.RowKit
end Go.Proofs.YtgepehlpjpccaaaGreatDoor
namespace Go.Proofs.YtgepehlpjpccaaaGreatDoor
open Go.RowKit Big
def yuM (L:List Nat) (g off n:Nat) (t:TypeId) (y:List Nat) (w:World) (e:Ending) (w':World):Prop :=
 ∃ L' c,Put L off n L'∧yP yB (yT L' off n)∧c≤1∧val yB (yT L' off n)+val yB y=val yB (yT L off n)+yB^n*c ∧
  e=.returned (.tuple #[])∧Only g w w'∧zV w' g t L'
theorem yfi (g off n cap:Nat) (t:TypeId) (L:List Nat) (q:Option Addr) (m c:Nat) (y:List Nat) (w:World) (hn:n≤maxLen) (hL:off+n≤L.length) (hm:m≤n)
  (hz:zV w g t L) (hy:Rd w q m y) (hq:m=0∨∀ b o,q=some ⟨b,o,none⟩→b≠g) (dL:yP yB (yT L off n)) (dy:yP yB y) :
  Calls Tryz.prog 182 #[.slice (some ⟨g,off,none⟩) n cap,.slice q m c] w (yuM L g off n t y w):=by
 unfold maxLen at hn
 go_enter Tryz.func182,Tryz.ntmps182
 go_wp2
 go_loopw [4,9] (fun cy i wr=>∃ (k:Nat) (L':List Nat) (d:Nat),k≤n∧i=.int .i64 k∧cy=.int .u64 d∧d≤1∧Put L off k L'∧yP yB (yT L' off k) ∧
   val yB (yT L' off k)+val yB (y.take k)=val yB (yT L off k)+yB^k*d∧Only g w wr∧zV wr g t L') (fun _ i _=>n-(intOf i).toNat)
 case atStart=>exact ⟨0,L,0,Nat.zero_le _,rfl,rfl,by omega,Put.refl _ _,by rw [ybZ];exact yP.nil _,by simp [val],Only.refl _ _,hz⟩
 case round =>
  obtain ⟨k,L',d,hk,rfl,rfl,hd,zQ,uI,zR,ho,hr⟩:=hrel
  have Hval:=yA zR
  clear zR
  by_cases hlt:k<n
  ·have hc:=hr.cell (off+k) (by rw [zQ.length];omega)
   rw [zQ.getD _ (by omega)] at hc
   have hf:=hr.free (off+k)
   have dk:L.getD (off+k) 0<yB:=by rw [← yb0 L off n k hlt];exact dL.getD yR k
   obtain ⟨a,ha⟩:∃ a,Hid (L.getD (off+k) 0=a):=⟨_,rfl⟩
   have hw:∃ b:Nat,Hid (y.getD k 0=b)∧b<yB:=⟨_,rfl,dy.getD yR k⟩
   obtain ⟨b,hb,yqE⟩:=hw
   rw [ha.out] at hc dk
   obtain ⟨s,c',hs,hs1,hs2,zL⟩:=yq4 a b d hd dk yqE
   have ycI:∀ wr',Only g w wr'→zV wr' g t (L'.set (off+k) s)→∃ (k':Nat) (L'':List Nat) (d':Nat),k'≤n∧Value.int .i64 ((k:Int)+1)=.int .i64 k'∧Value.int .u64 (c':Int)=.int .u64 d'∧d'≤1∧Put L off k' L''∧yP yB (yT L'' off k') ∧
     val yB (yT L'' off k')+val yB (y.take k')=val yB (yT L off k')+yB^k'*d'∧Only g w wr'∧zV wr' g t L'':=by
    intro wr' h1 h2
    refine ⟨k+1,L'.set (off+k) s,c',by omega,by go_num,rfl,hs2,zQ.set s,?_,?_,h1,h2⟩
    ·rw [zQ.seg_set (by omega)];exact uI.append (yP.one hs1)
    ·rw [zQ.seg_set (by omega),yaq L off k (by omega),jH,jH,yN,zN _ _ _ (by rw [zQ.length];omega),zN _ _ _ (by omega),ha.out,hb.out,Nat.pow_succ]
     exact ykH Hval.out hs.out
   have Hrel:=yA ycI
   clear ycI
   by_cases hkm:k<m
   ·obtain ⟨b0,o0,d0,rfl,hb0,hc0,hd0⟩:=hy.at hkm
    have e0:d0=b:=by rw [← hd0.out];exact hb.out
    subst e0
    have hcy:wr.cell? ⟨b0,o0+k,none⟩=some (.int .u64 (d0:Int)):=by
     rw [← hc0]
     exact World.cell?_of_block (w:=w) (ho.block b0 ((hq.resolve_left (by omega)) b0 o0 rfl))
    go_wp2
    go_roundw
    case rel=>exact Hrel.out _ (ho.setCell _ _) (hr.set _ _)
    case measure=>simp [intOf];omega
   ·have e0:b=0:=by
     rw [← hb.out,List.getD_eq_getElem?_getD,List.getElem?_eq_none (by rw [hy.len];omega)];rfl
    subst e0
    rw [show ((0:Nat):Int)=0 from rfl] at zL
    clear yqE hb
    go_wp2
    go_roundw
    case rel=>exact Hrel.out _ (ho.setCell _ _) (hr.set _ _)
    case measure=>simp [intOf];omega
  ·obtain rfl:k=n:=by omega
   have zR:=Hval.out
   rw [List.take_of_length_le (by rw [hy.len];exact hm)] at zR
   have Hv:=yA zR
   clear zR
   go_wp2
   go_end0
   exact ⟨L',d,zQ,uI,hd,Hv.out,rfl,ho,hr⟩
end Go.Proofs.YtgepehlpjpccaaaGreatDoor
namespace Go.Proofs.YtgepehlpjpccaaaGreatDoor
open Go.RowKit Big
end Go.Proofs.YtgepehlpjpccaaaGreatDoor
set_option maxHeartbeats 1600000
set_option maxRecDepth 100000
namespace Go.Proofs.YtgepehlpjpccaaaGreatDoor
open Go.RowKit Big
theorem ypX {B n s c a b:Nat} (h:s+b=a+B^n*c) (hs:s<B^n) (hle:b≤a):s=a-b:=by
 have h2:c=0:=by
  apply Nat.eq_zero_of_not_pos;intro hc
  have:B^n*1≤B^n*c:=Nat.mul_le_mul_left _ hc
  omega
 subst h2;omega
theorem yn7 (p:Option Addr) (n c:Nat) (x:List Nat) (q:Option Addr) (m d:Nat) (y:List Nat) (w:World) (hn0:n≤yC) (hmn:m≤n) (hx:Rd w p n x) (hy:Rd w q m y) (dx:yP yB x) (dy:yP yB y) (hle:val yB y≤val yB x) :
  Calls Tryz.prog 139 #[.slice p n c,.slice q m d] w (zB (val yB x-val yB y) w):=by
 obtain ⟨i0,hi,hz0,hz1,hz2⟩:=info_parts uG
 have hn:(n:Int)≤4294967296:=by unfold yC at hn0;omega
 go_enter Tryz.func139,Tryz.ntmps139
 go_wp2_with (at_make;refine wpList_make_full _ rfl _ _ 96 rfl w.heap.size 86 i0 (.int .u64 0) 1 Tryz.underlying96 hi hz0 hz1 _ _ _ _ (n) rfl rfl (by omega) (by omega) ?b2 ?b3 (Nat.le_refl _) ?_)
 case b2=>rw [hz2];unfold yC at hn0;omega
 case b3=>unfold maxLen;unfold yC at hn0;omega
 intro w1 yW zC
 have hr1:zV w1 w.heap.size 86 (List.replicate (n) 0):=jR yW
 have hb1:Below w.heap.size w w1:=(Below.refl _ _).grown zC (Nat.le_refl _) (fun k h=>by cases h)
 have hx1:=hx.below hb1
 clear yW zC
 go_wp2_with (refine wpList_copy_splice (o:=⟨some 11,_,_,_,_,_⟩) rfl (.tmp 9) (.tmp 10) 96 96 rfl 86 Tryz.underlying96 (by kernel_rfl) _ _ _ _ _ _ rfl rfl w.heap.size 0 (zX (List.replicate (n) 0)) 86 hr1 (zX x) ?c1 ?c2 ?c3 (ybp x) w.heap.size w hb1 (Nat.le_refl _) ?_)
 case c1=>rw [zT,hx.len];exact (Nat.min_eq_left (by omega)).symm
 case c2=>exact fun h=>hx1.cells h
 case c3=>rw [zT,zT,hx.len,List.length_replicate];omega
 intro w2 hr2 hb2
 have hr:zV w2 w.heap.size 86 (x++List.replicate (n-n) 0):=by
  have:=hr2.out
  rw [ybM _ x _ _ rfl,ybN x (n) (by rw [hx.len];omega),hx.len] at this
  exact this
 have hlen:(x++List.replicate (n-n) 0).length=n:=by rw [List.length_append,List.length_replicate,hx.len];omega
 have uI:yP yB (x++List.replicate (n-n) 0):=dx.append (yP.zeros yR _)
 have zR:val yB (x++List.replicate (n-n) 0)=val yB x:=by rw [vP,uR];omega
 obtain ⟨L,hL⟩:∃ L,Hid (L=x++List.replicate (n-n) 0):=⟨_,yA rfl⟩
 rw [← hL.out] at hr hlen uI zR
 have Hlen:=yA hlen
 have Hval:=yA zR
 have hq:m=0∨∀ b o,q=some ⟨b,o,none⟩→b≠w.heap.size:=by
  rcases hy.cell with h|⟨b,o,h1,h2,_⟩
  ·exact .inl h
  ·refine .inr fun b' o' h=>?_
   rw [h1] at h;cases h;omega
 have ycJ:yT L 0 (n)=L:=GU L (n) hlen.symm
 have ykk:yP yB (yT L 0 (n)):=by rw [ycJ];exact uI
 have HsegL:=yA ycJ
 clear hr2 hlen zR ycJ
 have hbn:n≤maxLen:=by unfold maxLen;omega
 go_wp2_with fail
 refine (yfi w.heap.size 0 (n) (n) 86 L q m d y _ hbn (by rw [Hlen.out];omega) (by omega) hr (hy.below hb2) hq ykk dy).mono ?_
 rintro e w3 ⟨L',cy,zQ,hd',hc1,hv',rfl,ho,hr'⟩
 have hl':L'.length=n:=by rw [zQ.length];exact Hlen.out
 rw [HsegL.out,Hval.out,GU L' (n) hl'.symm] at hv'
 rw [GU L' (n) hl'.symm] at hd'
 have hlx:=vE (yT L' 0 n) (by rw [GU L' n hl'.symm];exact hd')
 rw [GU L' n hl'.symm,hl'] at hlx
 have hs:=ypX hv' hlx hle
 have hb3:=Only.below hb2 ho (Nat.le_refl _)
 have ht:=GJ (some ⟨w.heap.size,0,none⟩) (n) (n) L' w w3 hbn (Nat.le_refl _) (hr'.rd0 (n) hl'.symm) hd' hb3
 rw [hs] at ht
 have Ht:=yA ht
 clear ht hs hv' hl' hlx
 go_wp2_with fail
 refine Ht.out.mono ?_
 rintro e w4 ⟨v,rfl,hv⟩
 go_wp2_with fail
 go_ret
 exact ⟨v,rfl,hv⟩
/-! ## The same for numbers in memory -/
theorem ydk (u v:Value) (a b K:Nat) (w:World) (hK:K≤yC) (ha:a<yB^K) (hle:b≤a) (hu:yH w u a) (hv:yH w v b):Calls Tryz.prog 139 #[u,v] w (zB (a-b) w):=by
 obtain ⟨p,n,c,x,rfl,h1,h2,h3,h4⟩:=hu
 obtain ⟨q,m,d,y,rfl,g1,g2,g3,g4⟩:=hv
 have hn:=yar h3 h4 ha h2
 have hm:m≤n:=by
  have:=yU.length_le g3 h3.1 (by rw [h4,g4];exact hle)
  rw [h2.len,g2.len] at this;exact this
 subst h4 g4
 exact yn7 p n c x q m d y w (by omega) hm h2 g2 h3.1 g3.1 hle
end Go.Proofs.YtgepehlpjpccaaaGreatDoor
namespace Big
end Big
namespace Go.Proofs.YtgepehlpjpccaaaGreatDoor
open Go.RowKit Big
end Go.Proofs.YtgepehlpjpccaaaGreatDoor
set_option maxHeartbeats 3200000
set_option maxRecDepth 100000
namespace Go.Proofs.YtgepehlpjpccaaaGreatDoor
open Go.RowKit Big
variable {B : Nat} {s : Bool} {u1 v1 : Value} {t : Bool} {u2 v2 : Value} {w0 W W' : World}
theorem yuN (x y:Value) (s t:Bool) (a b c d K:Nat) (w:World) (hK:K≤1073741824) (ha:a<yB^K) (hb:b<yB^K) (hc:c<yB^K) (hd:d<yB^K) (hx:jU w x s a b) (hy:jU w y t c d) :
  Calls Tryz.prog 79 #[x,y] w (uJ (s != t) (a*d) (b*c) w):=by
 obtain ⟨u1,v1,rfl,hu1,hv1,hs1⟩:=hx
 obtain ⟨u2,v2,rfl,hu2,hv2,hs2⟩:=hy
 have hm1:Hid (∀ W,Below w.heap.size w W→Calls Tryz.prog 133 #[u1,v2] W (zB (a*d) W)):=yA fun W h=>uF _ _ _ _ K W (by omega) ha hd (hu1.below h) (hv2.below h)
 have hm2:Hid (∀ W,Below w.heap.size w W→Calls Tryz.prog 133 #[v1,u2] W (zB (b*c) W)):=yA fun W h=>uF _ _ _ _ K W (by omega) hb hc (hv1.below h) (hu2.below h)
 have jV:=Two.start w s u1 v1 t u2 v2
 have Htwo:=yA jV
 obtain ⟨-,c0,c1,c2,c3,c4,c5⟩:=jV.all
 clear jV
 clear hu1 hv1 hu2 hv2 hs1 hs2
 go_enter Tryz.func79,Tryz.ntmps79
 go_wp2_with fail
 go_region_held3 (fun w'=>Two w.heap.size s u1 v1 t u2 v2 w w'∧w'.cell? ⟨w.heap.size,0,none⟩=some (.bool s)∧w'.cell? ⟨w.heap.size,1,none⟩=some u1∧w'.cell? ⟨w.heap.size,2,none⟩=some v1 ∧
   w'.cell? ⟨w.heap.size+1,0,none⟩=some (.bool t)∧w'.cell? ⟨w.heap.size+1,1,none⟩=some u2∧w'.cell? ⟨w.heap.size+1,2,none⟩=some v2)
  (first|exact Two.all (Two.drew Htwo.out)|exact Two.all Htwo.out|(go_split_ands;exact Two.all (Two.next (by assumption) hb1))|(go_split_ands;exact Two.all (Two.next (by assumption) hb2))|(go_split_ands;exact Two.all (Two.next (by assumption) hb3))|(go_split_ands;exact Two.all (Two.put3 (by assumption) (Nat.le_refl _) _ _ _ _ _ _ _))|go_keep)
  (first|(go_at_call_of 133 u1;go_split_ands;refine (hm1.out _ (Two.below (by assumption))).mono ?_;rintro e w1 ⟨vt,rfl,hvt,hb1⟩;obtain ⟨pt,nt,ct,rfl⟩:=hvt.slice)|(go_at_call_of 133 v1;go_split_ands;refine (hm2.out _ (Two.below (by assumption))).mono ?_;rintro e w2 ⟨vb,rfl,hvb,hb2⟩;obtain ⟨pb,nb,cb,rfl⟩:=hvb.slice)|(go_at_call 132;go_split_ands;refine (vI _ _ _ _ _ _ (yH.below (by assumption) (by assumption)) (by assumption)).mono ?_;rintro e w3 ⟨rfl,hb3⟩;have htw:=Two.next (by assumption) hb3;obtain ⟨z0,z1,z2,k0,k1,k2,f0,f1,f2⟩:=Two.slots htw))
 go_wp2_with fail
 have q1:=htw.nat3 (Nat.le_refl _) ((hvt.below hb2).below hb3) ((s != t)&&!(a*d==0)) pt pb nt ct nb cb
 have q2:=htw.nat3 (Nat.le_refl _) (hvb.below hb3) ((s != t)&&!(a*d==0)) pt pb nt ct nb cb
 have q3:=(htw.put3 (Nat.le_refl _) ((s != t)&&!(a*d==0)) pt pb nt ct nb cb).below
 have yD:Hid (∀ W,W=(((w3.setCell ⟨w.heap.size+1+1,0,none⟩ (.bool ((s != t)&&!(a*d==0)))).setCell ⟨w.heap.size+1+1,1,none⟩ (.slice pt nt ct)).setCell ⟨w.heap.size+1+1,2,none⟩ (.slice pb nb cb))→uJ (s != t) (a*d) (b*c) w (.returned (.agg #[.bool ((s != t)&&!(a*d==0)),.slice pt nt ct,.slice pb nb cb])) W):=yA (by
  rintro W rfl
  exact ⟨_,rfl,⟨_,_,rfl,q1,q2,by intro h;simp at h;omega⟩,q3⟩)
 refine bodyPost_ret (v:=.agg #[.bool (!(s==t)&&!(a*d==0)),.slice pt nt ct,.slice pb nb cb]) (by simp [results,Tryz.results79,go_sem,k0,k1,k2]) rfl ?_
 exact yD.out _ rfl
theorem yuO (x y:Value) (s t:Bool) (a b c d K:Nat) (w:World) (hK:K≤1073741824) (ha:a<yB^K) (hb:b<yB^K) (hc:c<yB^K) (hd:d<yB^K) (hx:jU w x s a b) (hy:jU w y t c d) :
  Calls Tryz.prog 91 #[x,y] w (uJ (s != t) (a*c) (b*d) w):=by
 obtain ⟨u1,v1,rfl,hu1,hv1,hs1⟩:=hx
 obtain ⟨u2,v2,rfl,hu2,hv2,hs2⟩:=hy
 have hm1:Hid (∀ W,Below w.heap.size w W→Calls Tryz.prog 133 #[u1,u2] W (zB (a*c) W)):=yA fun W h=>uF _ _ _ _ K W (by omega) ha hc (hu1.below h) (hu2.below h)
 have hm2:Hid (∀ W,Below w.heap.size w W→Calls Tryz.prog 133 #[v1,v2] W (zB (b*d) W)):=yA fun W h=>uF _ _ _ _ K W (by omega) hb hd (hv1.below h) (hv2.below h)
 have jV:=Two.start w s u1 v1 t u2 v2
 have Htwo:=yA jV
 obtain ⟨-,c0,c1,c2,c3,c4,c5⟩:=jV.all
 clear jV
 clear hu1 hv1 hu2 hv2 hs1 hs2
 go_enter Tryz.func91,Tryz.ntmps91
 go_wp2_with fail
 go_region_held3 (fun w'=>Two w.heap.size s u1 v1 t u2 v2 w w'∧w'.cell? ⟨w.heap.size,0,none⟩=some (.bool s)∧w'.cell? ⟨w.heap.size,1,none⟩=some u1∧w'.cell? ⟨w.heap.size,2,none⟩=some v1 ∧
   w'.cell? ⟨w.heap.size+1,0,none⟩=some (.bool t)∧w'.cell? ⟨w.heap.size+1,1,none⟩=some u2∧w'.cell? ⟨w.heap.size+1,2,none⟩=some v2)
  (first|exact Two.all (Two.drew Htwo.out)|exact Two.all Htwo.out|(go_split_ands;exact Two.all (Two.next (by assumption) hb1))|(go_split_ands;exact Two.all (Two.next (by assumption) hb2))|(go_split_ands;exact Two.all (Two.next (by assumption) hb3))|(go_split_ands;exact Two.all (Two.put3 (by assumption) (Nat.le_refl _) _ _ _ _ _ _ _))|go_keep)
  (first|(go_at_call_of 133 u1;go_split_ands;refine (hm1.out _ (Two.below (by assumption))).mono ?_;rintro e w1 ⟨vt,rfl,hvt,hb1⟩;obtain ⟨pt,nt,ct,rfl⟩:=hvt.slice)|(go_at_call_of 133 v1;go_split_ands;refine (hm2.out _ (Two.below (by assumption))).mono ?_;rintro e w2 ⟨vb,rfl,hvb,hb2⟩;obtain ⟨pb,nb,cb,rfl⟩:=hvb.slice)|(go_at_call 132;go_split_ands;refine (vI _ _ _ _ _ _ (yH.below (by assumption) (by assumption)) (by assumption)).mono ?_;rintro e w3 ⟨rfl,hb3⟩;have htw:=Two.next (by assumption) hb3;obtain ⟨z0,z1,z2,k0,k1,k2,f0,f1,f2⟩:=Two.slots htw))
 go_wp2_with fail
 have q1:=htw.nat3 (Nat.le_refl _) ((hvt.below hb2).below hb3) ((s != t)&&!(a*c==0)) pt pb nt ct nb cb
 have q2:=htw.nat3 (Nat.le_refl _) (hvb.below hb3) ((s != t)&&!(a*c==0)) pt pb nt ct nb cb
 have q3:=(htw.put3 (Nat.le_refl _) ((s != t)&&!(a*c==0)) pt pb nt ct nb cb).below
 have yD:Hid (∀ W,W=(((w3.setCell ⟨w.heap.size+1+1,0,none⟩ (.bool ((s != t)&&!(a*c==0)))).setCell ⟨w.heap.size+1+1,1,none⟩ (.slice pt nt ct)).setCell ⟨w.heap.size+1+1,2,none⟩ (.slice pb nb cb))→uJ (s != t) (a*c) (b*d) w (.returned (.agg #[.bool ((s != t)&&!(a*c==0)),.slice pt nt ct,.slice pb nb cb])) W):=yA (by
  rintro W rfl
  exact ⟨_,rfl,⟨_,_,rfl,q1,q2,by intro h;simp at h;omega⟩,q3⟩)
 refine bodyPost_ret (v:=.agg #[.bool (!(s==t)&&!(a*c==0)),.slice pt nt ct,.slice pb nb cb]) (by simp [results,Tryz.results91,go_sem,k0,k1,k2]) rfl ?_
 exact yD.out _ rfl
end Go.Proofs.YtgepehlpjpccaaaGreatDoor
namespace Big
theorem ysK {s t:Bool} {a b c d:Nat} (hb:0<b) (hd:0<d):yL (s != t) (a*c) (b*d)=yL s a b*yL t c d:=by
 have h1:=vW hb
 have h2:=vW hd
 unfold yL
 rw [Rat.natCast_mul,Rat.natCast_mul]
 cases s<;>cases t<;>simp<;>grind
theorem ysL {s t:Bool} {a b c d:Nat} (hb:0<b) (hd:0<d) (hc:0<c):yL (s != t) (a*d) (b*c)=yL s a b/yL t c d:=by
 have h1:=vW hb
 have h2:=vW hd
 have h3:=vW hc
 unfold yL
 rw [Rat.natCast_mul,Rat.natCast_mul]
 cases s<;>cases t<;>simp<;>grind
end Big
