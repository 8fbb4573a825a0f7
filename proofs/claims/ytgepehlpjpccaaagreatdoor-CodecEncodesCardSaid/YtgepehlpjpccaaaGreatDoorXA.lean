/- Contracts. -/
import Derived.Test.YtgepehlpjpccaaaGreatDoorNKK
import Derived.Test.YtgepehlpjpccaaaGreatDoorGEN
import Derived.Test.YtgepehlpjpccaaaGreatDoorCards
import Derived.Test.YtgepehlpjpccaaaGreatDoorTie
import Derived.ProofKit
import Derived.OpenShut
import Derived.ShutString
import Derived.LaidMore
import Derived.Stop.LaidErr
import Derived.Deep.DeepHandedRow
import Derived.Deep.Strs
set_option maxHeartbeats 16000000
set_option maxRecDepth 100000
namespace Go.Proofs.YtgepehlpjpccaaaGreatDoor
section
open Go.RowKit
open Go.Lib
theorem ywV (k:Int) (p:Oa) (c n m:Nat) (xs:List Lb) (w:World) (hx:Hid (xs.length=n)) (hn:n≤4096) (hm:Hid ((yal k xs).length=m)) (hmc:m≤c) (hb:Bs w p (yal k xs)) (HZ:Hid (vH k xs=0)) (he:Env w) :
  Calls Tryz.prog 62 #[.int .i64 k,.int .i64 (n:Int),.slice p m c] w fun e w'=>∃ q,e=.returned (.tuple #[.slice q n n,.int .i64 0])∧Ss w' q xs∧Be w w':=by
 have HB:=h_ hb
 have HE:=h_ he
 have HRV:=h_ (yj3 k p c n m xs w hx hn hm hmc hb HZ he)
 clear hb he
 have hkT:isT k=true:=by
  have h:=HZ.out
  unfold vH at h
  by_cases h1:isT k=false
  ·rw [if_pos h1] at h;cases h
  ·simpa using h1
 have HT:=h_ (fun W=>yeh k W)
 rw [hkT] at HT
 have hni:(n:Int)≤4096:=by omega
 obtain ⟨P,HPD⟩:=ez ((n+7)/8)
 have hPi:((n:Int)+7)/8=(P:Int):=by have:=HPD.out;omega
 have HPR:=h_ (fun W=>ybs n hni W)
 rw [hPi] at HPR
 have hPm:P≤m:=by
  rw [← hm.out,yla,List.length_append,vZ,hx.out,HPD.out];omega
 have hlt:¬ (m:Int)<(P:Int):=by omega
 clear hkT hPi hPm
 go_in
 go_wp2_with fail
 refine (HT.out _).mono ?_
 rintro e w' ⟨rfl,rfl⟩
 go_wp2_with fail
 refine (yb9 n hni _).mono ?_
 rintro e w' ⟨rfl,rfl⟩
 go_wp2_with fail
 refine (HPR.out _).mono ?_
 rintro e w' ⟨rfl,rfl⟩
 go_wp2_with fail
 refine (HRV.out).mono ?_
 rintro e w1 ⟨hb1,q,rfl,hq⟩
 have yX:=h_ hb1
 have HQ:=h_ hq
 have yu6:=h_ (ygY k q n n xs w1 hx hn hq (HE.out.below hb1) HZ)
 clear hb1 hq
 go_wp2_with fail
 refine (yu6.out).mono ?_
 rintro e w2 ⟨v2,rfl,hpg⟩
 obtain ⟨p2,c2,rfl,hbs,-⟩:=yS hpg.own
 have HB12:=h_ hpg.below
 have HEQ:=h_ (yc8 p2 p c2 c m (yal k xs) w2 hm hbs ((HB.out.below yX.out).below hpg.below))
 rw [hm.out]
 clear hpg hbs
 go_wp2_with fail
 refine (HEQ.out).mono ?_
 rintro e w' ⟨rfl,rfl⟩
 have GB:Hid (Ss w2 q xs∧Be w w2):=h_ ⟨HQ.out.below HB12.out,tr yX.out HB12.out⟩
 go_wp2
 go_ret2
 exact ⟨q,rfl,GB.out.1,GB.out.2⟩
theorem ymT (k:Int) (p:Oa) (c n m b0 off mm m0 cv:Nat) (ss:List Sg) (ys:List Lb) (L P:Lb) (w:World) (he:Env w) (hx:Hid (ss.length=n)) (hs:RdG w p ss) (hp:Hid (uK k ss=true)) (hy:Hid (ys.length=m)) (hm:m≤100) (HCV:Hid (vH k ys=0)) (HPE:Hid (yal k ys=P)) (HLE:Hid (yaC ss n P=L)) (hm0:Hid (L.length=m0)) (hmm:mm=m0+4) (hcv:mm≤cv) (hb:Bs w (some ⟨b0,off,none⟩) (jU L)) :
  Calls Tryz.prog 25 #[.int .i64 k,.slice p n c,.int .i64 (m:Int),.slice (some ⟨b0,off,none⟩) mm cv] w fun e w'=>∃ q,e=.returned (.tuple #[.slice q m m,.int .i64 0])∧Ss w' q ys∧Be w w':=by
 have HV:=h_ (ybL k p c n ss w he.tab hx hs)
 rw [hp.out] at HV
 have HE:=h_ he
 have HB:=h_ hb
 have HS:=h_ hs
 have hmi:(m:Int)≤4096:=by omega
 have hn4:ss.length≤4:=(uH hp.out).2.1
 have hni:(n:Int)≤4:=by have:=hx.out;omega
 have HPL:Hid (P.length≤8313):=h_ (by rw [← HPE.out];exact yeH HCV.out (by rw [hy.out];exact hm))
 have HTL:Hid (∀ j,j≤n→(yaC ss j P).length≤8800):=h_ (fun j hj=>by
  have h1:=ybH (l:=P) (ycE hp.out) (by have:=HPL.out;omega) hn4 j (by rw [hx.out];exact hj)
  have:=HPL.out;have:=hx.out;omega)
 have hm0i:m0≤8800:=by have h1:=HTL.out n nl;rw [HLE.out,hm0.out] at h1;exact h1
 have etk:(jU L).take m0=L:=by unfold jU;rw [← hm0.out,List.take_left]
 have edr:(jU L).drop m0=sumB (Crc.crc L):=by unfold jU;rw [← hm0.out,List.drop_left]
 obtain ⟨X,HX⟩:=ez (Crc.crc L)
 have HBL:Hid (∀ W,Be w W→Bs W (some ⟨b0,off,none⟩) L):=h_ (fun W hW=>by
  have h:=ypA (HB.out.below hW) m0
  rwa [etk] at h)
 have HSM:Hid (∀ W,Be w W→Calls Tryz.prog 55 #[.slice (some ⟨b0,off,none⟩) m0 cv] W (Rp (.agg #[.int .u8 ((X%256:Nat):Int),.int .u8 ((X/256%256:Nat):Int),.int .u8 ((X/65536%256:Nat):Int),.int .u8 ((X/16777216%256:Nat):Int)]) W)):=h_ (fun W hW=>by
  have h:=yeZ (some ⟨b0,off,none⟩) cv L W (by rw [hm0.out];omega) (HBL.out W hW)
  unfold yrA at h
  rwa [HX.out,hm0.out] at h)
 have HEQ:Hid (∀ W G,Be w W→Bs W (some ⟨G,0,none⟩) (sumB X)→Calls Tryz.prog 60 #[.slice (some ⟨G,0,none⟩) 4 4,.slice (some ⟨b0,off+m0,none⟩) 4 (cv-m0)] W (Qp (.bool true) W)):=h_ (fun W G hW hG=>by
  have h1:(sumB X).length=4:=rfl
  have h2:=GZ (HB.out.below hW) m0 (by unfold jU;rw [List.length_append,hm0.out];omega) rfl
  rw [edr,HX.out] at h2
  exact yc8 _ _ _ _ 4 (sumB X) W (h_ h1) hG h2)
 obtain ⟨c0,HC0⟩:=ez (X%256)
 obtain ⟨c1,HC1⟩:=ez (X/256%256)
 obtain ⟨c2,HC2⟩:=ez (X/65536%256)
 obtain ⟨c4,HC4⟩:=ez (X/16777216%256)
 rw [HC0.out,HC1.out,HC2.out,HC4.out] at HSM
 have h4:(mm:Int)-4=(m0:Int):=by omega
 have g0:¬ (m0:Int)<0:=by omega
 have g1:(m0:Int)≤(mm:Int):=by omega
 have g2:(mm:Int)≤(cv:Int):=by omega
 have g3:(mm:Int)≤100000:=by omega
 have g4:(m0:Int)≤(cv:Int):=by omega
 have g5:mm-m0=4:=by omega
 have g6:¬ cv=m0:=by omega
 have hmc:Hid (m0≤cv):=h_ (by omega)
 have HIS:=h_ (fun W=>yb9 m hmi W)
 clear hs he hb hmm hcv etk edr
 go_in
 go_wp2_with fail
 refine (HV.out).mono ?_
 rintro e w1 ⟨rfl,hb1⟩
 have yX:=h_ hb1
 clear hb1
 go_wp2_with fail
 refine (HIS.out _).mono ?_
 rintro e w' ⟨rfl,rfl⟩
 go_wp2_with fail
 refine (HSM.out _ yX.out).mono ?_
 rintro e w6 ⟨rfl,hb6⟩
 have HB6:=th yX hb6
 clear hb6
 obtain ⟨W7,HW7⟩:∃ W7,Hid (w6.alloc (.cells #[.int .u8 (c0:Int),.int .u8 (c1:Int),.int .u8 (c2:Int),.int .u8 (c4:Int)] 79)=W7):=⟨_,h_ rfl⟩
 obtain ⟨G,HG⟩:=ez (w6.heap.size)
 have HSB:Hid (Bs W7 (some ⟨G,0,none⟩) (sumB X)):=h_ (by
  refine ym4 (t:=79) ?_
  rw [HC0.out,HC1.out,HC2.out,HC4.out,← HW7.out,← HG.out]
  exact World.alloc_heap_new w6 _)
 have HB7:Hid (Be w W7):=h_ (HB6.out.trans (by rw [← HW7.out];exact (bR.alloc nl _).mono HB6.out.size))
 have HBG:Hid (∀ W,Be W7 W→Be w W∧Bs W (some ⟨G,0,none⟩) (sumB X)):=h_ (fun W hW=>⟨tr HB7.out hW,HSB.out.below hW⟩)
 have HCC:Hid (∀ j,Calls Tryz.prog 60 #[.slice (some ⟨G,0,none⟩) 4 4,.slice (some ⟨b0,off+m0,none⟩) 4 (cv-m0)] (W7.drewN j) fun e w'=>e=.returned (.bool true)∧w'=W7.drewN j):=h_ (fun j=>(HEQ.out (W7.drewN j) G (HBG.out _ (yI _ _ j)).1 (HBG.out _ (yI _ _ j)).2).mono (fun _ _ h=>⟨h.1,h.2.symm⟩))
 go_wp2_with fail
 rw [HW7.out,HG.out]
 go_quiet ((go_at_call 60;exact Calls.quiet_of_same (HCC.out _)))
 go_wp2
 go_loopw [12,13,14] (fun bv ev iv wr=>∃ (j:Nat) (pc:Oa) (lc cc:Nat),j≤n∧bv=.slice pc lc cc∧ev=.int .i64 0∧iv=.int .i64 ((j:Int)-1)∧Hid (lc=(yaC ss j P).length)∧Hid (lc≤cc)∧Hid (pc=none→cc=0)∧Hid (Bs wr pc (yaC ss j P))∧Hid (Be w wr)) (fun _ _ iv _=>(intOf iv+1).toNat)
 case atStart=>exact ⟨n,_,_,_,Nat.le_refl _,rfl,rfl,rfl,h_ (by rw [HLE.out,hm0.out]),hmc,h_ (by intro h;cases h),h_ (by rw [HLE.out];exact HBL.out _ (HB7.out.trans (yI _ _ _))),h_ (HB7.out.trans (yI _ _ _))⟩
 case round =>
  obtain ⟨j,pc,lc,cc,hj,rfl,rfl,rfl,HLC,HCC2,HNC,HO,HBR⟩:=hrel
  cases j with
  | succ i =>
   have hil:i<ss.length:=by rw [hx.out];omega
   have e9:((i+1:Nat):Int)-1=(i:Int):=by omega
   have ilt:(i:Int)<(n:Int):=by omega
   have i0:(i:Int) ≥ 0:=by omega
   obtain ⟨b2,o2,x,y,s,e2,hb2,hd1,hd2,hd3,hx2⟩:=(HS.out.below HBR.out).at (k:=i) hil
   obtain ⟨Q,HQ⟩:=ez (yaC ss i P)
   have HTH:Hid (Calls Tryz.prog 61 #[.agg #[.int .i64 x,.int .i64 y,.string ⟨s.toArray⟩],.slice pc lc cc] wr (ycb Q Q.length wr)):=h_ (by
    have e1:=ydO (l:=P) hil
    rw [hx2.out,HQ.out] at e1
    have hq:Q.length≤10000:=by have:=HTL.out i (by omega);rw [HQ.out] at this;omega
    exact yt2 (x,y,s) pc lc cc Q wr (by have:=ycE hp.out i hil;rwa [hx2.out] at this) hq (h_ (by rw [HLC.out,e1])) HCC2.out HNC.out (by have:=HO.out;rwa [e1] at this))
   rw [e9]
   first|(cases e2)|(rw [e2])
   obtain ⟨SZ,HSZ⟩:∃ SZ:ByteArray,Hid (⟨s.toArray⟩=SZ):=⟨_,rfl⟩
   rw [HSZ.out] at hd3 HTH
   have HQL:Hid (Q.length=(yaC ss i P).length):=h_ (by rw [HQ.out])
   obtain ⟨ql,HQQ⟩:=ez (Q.length)
   rw [HQQ.out] at HTH
   clear hb2 hil
   go_wp2_with fail
   refine (HTH.out).mono ?_
   rintro e w5 ⟨hb5,q5,d5,rfl,h51,h52,h53⟩
   have HB5:=th HBR hb5
   have HO5:Hid (Bs w5 q5 (yaC ss i P)):=h_ (by rw [HQ.out];exact h53)
   have HL5:Hid (ql=(yaC ss i P).length):=h_ (by rw [← HQQ.out,HQL.out])
   clear hb5 h53 hd1 hd2 hd3
   go_wp2
   go_roundw
   case rel=>exact ⟨i,q5,_,d5,by omega,rfl,rfl,by go_num,HL5,h51,h52,HO5,HB5⟩
   case measure=>simp [intOf]
  | zero =>
   have e9:((0:Nat):Int)-1=(-1:Int):=rfl
   rw [e9]
   have HGP:Hid (Calls Tryz.prog 62 #[.int .i64 k,.int .i64 (m:Int),.slice pc lc cc] wr fun e w'=>∃ q,e=.returned (.tuple #[.slice q m m,.int .i64 0])∧Ss w' q ys∧Be wr w'):=h_ (by
    have h1:yaC ss 0 P=yal k ys:=by rw [yjd,HPE.out]
    have h2:=HO.out
    rw [h1] at h2
    exact ywV k pc cc m lc ys wr hy (by omega) (h_ (by rw [HLC.out,h1])) HCC2.out h2 HCV (HE.out.below HBR.out))
   go_wp2_with fail
   refine (HGP.out).mono ?_
   rintro e w5 ⟨q5,rfl,hs5,hb5⟩
   have HS5:=h_ hs5
   have HB5:=th HBR hb5
   clear hs5 hb5
   go_wp2
   go_ret2
   exact ⟨q5,rfl,HS5.out,HB5.out⟩
def RdP (w:World) (p:Oa) (ps:List (List Sg)):Prop:=ps.length=0∨∃ b off,p=some ⟨b,off,none⟩∧b<w.heap.size∧∀ j,j<ps.length→∃ q c,w.cell? ⟨b,off+j,none⟩=some (.slice q (ps.getD j []).length c)∧(ps.getD j []).length≤c∧RdG w q (ps.getD j [])
theorem RdP.below {w w':World} {p:Oa} {ps:List (List Sg)} (h:RdP w p ps) (hb:Be w w'):RdP w' p ps:=h.imp id fun ⟨b,off,h1,h2,h3⟩ =>
 ⟨b,off,h1,Nat.lt_of_lt_of_le h2 hb.size,fun j hj=>by
  obtain ⟨q,c,h4,hc,h5⟩:=h3 j hj
  exact ⟨q,c,(hb.cell (p:=⟨b,off+j,none⟩) h2).trans h4,hc,h5.below hb⟩⟩
theorem RdP.at {w:World} {p:Oa} {ps:List (List Sg)} (h:RdP w p ps) {k:Nat} (hk:k<ps.length):∃ b off q c ss,p=some ⟨b,off,none⟩∧b<w.heap.size∧w.cell? ⟨b,off+k,none⟩=some (.slice q ss.length c)∧ss.length≤c∧RdG w q ss∧Hid (ps.getD k []=ss):=by
 rcases h with h0|⟨b,off,h1,h2,h3⟩
 ·omega
 ·obtain ⟨q,c,h4,hc,h5⟩:=h3 k hk
  exact ⟨b,off,q,c,_,h1,h2,h4,hc,h5,h_ rfl⟩
theorem ymU (L:Lb):(jU L).length=L.length+4:=by
 unfold jU;rw [List.length_append];rfl
theorem ywW {k:Int} {p:Oa} {c n m:Nat} {ss:List Sg} {xs ys:List Lb} {w W1:World} {v:Value} (he:Env w) (hx:Hid (ss.length=n)) (hs:RdG w p ss) (hy:Hid (xs.length=m)) (hm:m≤100) (HZ:ydb k ss xs=0) (HV:Hid (uP ss xs=ys)) (hb0:Be w W1) {B:Nat} (ho:W1.ownsRow B 5 1 v (jU (ybv k ss xs)).length (zG (jU (ybv k ss xs)))) :
  ∃ b off mm cv,v=.slice (some ⟨b,off,none⟩) mm cv∧(mm:Int)≤100000∧Hid (∀ W,Be W1 W→Calls Tryz.prog 25 #[.int .i64 k,.slice p n c,.int .i64 (m:Int),v] W fun e w'=>∃ q,e=.returned (.tuple #[.slice q m m,.int .i64 0])∧Ss w' q ys∧Be W w'):=by
 obtain ⟨pv,cv,rfl,hbs,hcv⟩:=yS ho
 have hl:=ymU (ybv k ss xs)
 have hel:=ytm HZ (by rw [hy.out];exact hm)
 obtain ⟨h1,-,-,h4⟩:=yaw HZ
 obtain ⟨b,off,rfl⟩:=yjQ hbs (by omega)
 refine ⟨b,off,_,cv,rfl,by omega,h_ fun W hW=>?_⟩
 have hBW:Be w W:=tr hb0 hW
 have hyl:ys.length=m:=by rw [← HV.out,ycz,hy.out]
 refine ymT k p c n m b off _ (ybv k ss xs).length cv ss ys (ybv k ss xs) (yal k ys) W (he.below hBW) hx (hs.below hBW) (h_ h1) (h_ hyl) hm (h_ (by rw [← HV.out];exact h4)) (h_ rfl) (h_ ?_) (h_ rfl) hl hcv (hbs.below hW)
 unfold ybv
 rw [HV.out,hx.out]
end
section
open Go.RowKit Go.Lib Big
theorem yi9 (k:Nat):yM false k 1=(((k:Int)):Rat):=by
 have h:=yg7 (k:Int)
 rw [show decide ((k:Int)<0)=false from by simp] at h
 exact h
theorem ydN (q:Rat):yeU q=((q.floor:Int):Rat):=by
 have hd:(0:Int)<q.den:=by have:=q.den_pos;omega
 rw [Rat.floor_def]
 unfold yeU
 by_cases hs:q.num<0
 ·have e1:decide (q.num<0)=true:=by simpa using hs
  rw [e1]
  have e2:yM true (jP true q.num.natAbs q.den) 1=-(((jP true q.num.natAbs q.den:Nat):Int):Rat):=by
   have:=ylX false (jP true q.num.natAbs q.den) 1
   rw [yi9] at this
   exact this
  rw [e2,← Rat.intCast_neg]
  congr 1
  have hn:q.num=-(q.num.natAbs:Int):=by omega
  generalize q.num.natAbs=a at hn
  rw [hn]
  have hm:=Nat.div_add_mod a q.den
  have hml:=Nat.mod_lt a q.den_pos
  unfold jP
  by_cases h0:a%q.den=0
  ·have:(a%q.den==0)=true:=by simpa using h0
   rw [this]
   symm
   refine Int.ediv_eq_of_eq_mul_right (by omega) ?_
   simp
   have:(a:Int)=(q.den:Int)*((a/q.den:Nat):Int):=by rw [h0,Nat.add_zero] at hm;exact_mod_cast hm.symm
   rw [Int.natCast_ediv] at this
   rw [Int.mul_neg,← this]
  ·have:(a%q.den==0)=false:=by simpa using h0
   rw [this]
   symm
   simp only [Bool.true_and,Bool.not_false,if_true]
   have hm2:(q.den:Int)*((a/q.den:Nat):Int)+((a%q.den:Nat):Int)=(a:Int):=by exact_mod_cast hm
   have hml2:((a%q.den:Nat):Int)<q.den:=by exact_mod_cast hml
   have h02:(0:Int)<((a%q.den:Nat):Int):=by omega
   generalize ((a%q.den:Nat):Int)=r at hm2 hml2 h02
   rw [Int.natCast_add]
   generalize ((a/q.den:Nat):Int)=k at hm2
   have e:-(a:Int)=(q.den-r)+q.den*(-(k+1)):=by
    rw [← hm2,Int.mul_neg,Int.mul_add];omega
   rw [e,Int.add_mul_ediv_left _ _ (by omega),Int.ediv_eq_zero_of_lt (by omega) (by omega)]
   simp
 ·have e1:decide (q.num<0)=false:=by simpa using hs
  rw [e1,yi9]
  congr 1
  unfold jP
  simp
  have hn:(q.num.natAbs:Int)=q.num:=by omega
  rw [hn]
theorem yeQ:jS+jS=1:=by rw [← ypR];grind
theorem yuF (a b:Rat) (hb:0<b):GO a b-a≤b*jS∧-(GO a b-a)≤b*jS:=by
 have hb0:b≠0:=by grind
 unfold GO
 rw [ydN]
 have h1:=Rat.floor_le (a/b+jS)
 have h2:=Rat.lt_floor_add_one (a/b+jS)
 rw [Rat.intCast_add] at h2
 have ht:=yeQ
 generalize (((a/b+jS).floor:Int):Rat)=k at h1 h2
 have e:(a/b)*b=a:=by rw [Rat.div_def,Rat.mul_assoc,Rat.inv_mul_cancel b hb0,Rat.mul_one]
 generalize a/b=c at h1 h2 e
 have h3:k*b≤(c+jS)*b:=Rat.mul_le_mul_of_nonneg_right h1 (by grind)
 have h4:(c+jS)*b≤(k+1)*b:=Rat.mul_le_mul_of_nonneg_right (by simpa using Rat.le_of_lt h2) (by grind)
 have h5:(jS+jS)*b=b:=by rw [ht,Rat.one_mul]
 subst e
 generalize jS=h at *
 constructor<;>grind
end
section
open Go.RowKit
open Go.Lib
theorem ymV (s:ByteArray) (w:World) (hz:s.size=0):Calls Tryz.prog 68 #[.string s] w (zY 0 false w):=by
 have hs:s.data.toList=[]:=by
  have:s.data.toList.length=0:=by rw [← hz];simp
  exact List.eq_nil_of_length_eq_zero this
 exact yhl s 0 0 false 0 0 w (by omega) hz (fun W=>h_ (by
  have h:=ygp s W (by omega)
  rw [hs] at h
  exact h)) rfl
theorem yrm (s:ByteArray) (w:World) (hz:s.size=0):Calls Tryz.prog 31 #[.string s] w (Rp (.tuple #[.agg #[.bool false,.slice none 0 0,.slice none 0 0],.bool false]) w):=by
 have zF:=yA (Resa.start w)
 have hpl:=yA (fun W=>ymV s W hz)
 have h82:(s.size:Int)≤82:=by omega
 clear hz
 go_in
 go_wp2_with fail
 refine (hpl.out _).mono ?_
 rintro e w1 ⟨b,p,n,c,p2,n2,c2,rfl,hb1,-⟩
 have hr2:=yA ((zF.out.next hb1).next (yC w1 (.cells #[.bool b,.slice p n c,.slice p2 n2 c2] 59)))
 obtain ⟨z0,z1,z2,l0,l1,l2,f0,f1,f2⟩:=hr2.out.slots
 have q3:=yA (hr2.out.put3 nl false none none 0 0 0 0).below
 clear hb1
 go_wp2
 refine bodyPost_ret (v:=.tuple #[.agg #[.bool false,.slice none 0 0,.slice none 0 0],.bool false]) ?h1 rfl ?h2
 case h1=>simp [results,Tryz.results31,go_sem,l0,l1,l2]
 exact ⟨rfl,q3.out⟩
def qv (x:Lb):Rat:=(num x).getD 0
theorem yxu (x:Lb) (w:World) (h:x=[]∨(num x).isSome=true):Calls Tryz.prog 31 #[.string ⟨x.toArray⟩] w (ybW (qv x) (num x).isSome w):=by
 rcases h with rfl|h
 ·have e:num []=none:=ycN
  unfold qv
  rw [e]
  refine (yrm ⟨([]:Lb).toArray⟩ w rfl).mono ?_
  rintro e w' ⟨rfl,hb⟩
  exact ⟨_,_,_,_,_,_,_,rfl,hb,jL.zero w'⟩
 ·refine (yg6 ⟨x.toArray⟩ (num x) rfl w).mono ?_
  rintro e w' ⟨b,p,n,c,p2,n2,c2,rfl,hb,hq⟩
  exact ⟨b,p,n,c,p2,n2,c2,rfl,hb,hq h⟩
open Big in
theorem yxg (x:Lb):uA 5 (qv x):=by
 unfold qv
 cases hn:num x with
 | none=>exact ⟨by rw [show ((none:Option Rat).getD 0)=0 from rfl];show 0<B9^5;exact Nat.pow_pos zS,by rw [show ((none:Option Rat).getD 0)=0 from rfl];show 1<B9^5;rw [zA];decide⟩
 | some q=>exact ycM hn
theorem yyw {q:Rat} (h:q≤0):GK q≤0:=by
 rw [yeP]
 rcases ycX q with ⟨_,e⟩|⟨_,e⟩|⟨h2,_⟩
 ·rw [e];decide
 ·rw [e];decide
 ·exact absurd h2 (Rat.not_lt.2 h)
theorem yyx {q:Rat} (h:0≤q):0≤GK q:=by
 rw [yeP]
 rcases ycX q with ⟨h2,_⟩|⟨_,e⟩|⟨_,e⟩
 ·exact absurd h2 (Rat.not_lt.2 h)
 ·rw [e];decide
 ·rw [e];decide
theorem yuG {K L:Nat} {a b:Rat} (ha:uA K a) (hb:uA L b):uA (K+L+1) (a-b):=by
 rw [Rat.sub_eq_add_neg];exact ha.add hb.neg
theorem ymW {a b:Rat} (ha:uA 5 a) (hb:uA 5 b):∃ K,K≤1000∧uA K (a-b):=⟨5+5+1,by decide,yuG ha hb⟩
def ygO (s:Rat) (x y:Lb):Prop:=(num x).isSome=(num y).isSome∧((num x).isSome=true→qv x-qv y+(qv x-qv y)≤s∧-s≤qv x-qv y+(qv x-qv y))
theorem yuH (p q:Oa) (c d n:Nat) (xs ys:List Lb) (st:Lb) (s:Rat) (w:World) (hx:Hid (xs.length=n)) (hy:Hid (ys.length=n)) (hn:n≤100) (hp:Ss w p xs) (hq:Ss w q ys) (hst:num st=some s)
  (hvx:Hid (∀ j,j<n→xs.getD j []=[]∨(num (xs.getD j [])).isSome=true)) (hvy:Hid (∀ j,j<n→ys.getD j []=[]∨(num (ys.getD j [])).isSome=true)) (yn0:Hid (∀ j,j<n→ygO s (xs.getD j []) (ys.getD j []))) :
  Calls Tryz.prog 21 #[.slice p n c,.slice q n d,.string ⟨st.toArray⟩] w (Rp (.bool true) w):=by
 have HP:=h_ hp
 have HQ:=h_ hq
 have HGS:Hid (∀ W,Calls Tryz.prog 31 #[.string ⟨st.toArray⟩] W (ybW s true W)):=h_ (fun W=>by
  have h:=yxu st W (.inr (by rw [hst];rfl))
  unfold qv at h
  rw [hst] at h
  exact h)
 have HSL:Hid (uA 5 s):=h_ (ycM hst)
 obtain ⟨SZ,HSZ⟩:∃ SZ:ByteArray,Hid (⟨st.toArray⟩=SZ):=⟨_,rfl⟩
 rw [HSZ.out] at HGS ⊢
 have hni:(n:Int)≤100:=by omega
 have hnn:((n:Int) != (n:Int))=false:=by simp
 clear hp hq hst
 go_in
 go_wp2_with fail
 refine (HGS.out _).mono ?_
 rintro e w1 ⟨bS,pS,nS,cS,qS,mS,dS,rfl,hb1,hqs⟩
 obtain ⟨GS,HGSx⟩:=ez (w1.heap.size)
 obtain ⟨W2,HW2⟩:∃ W2,Hid (w1.alloc (.cells #[.bool bS,.slice pS nS cS,.slice qS mS dS] 59)=W2):=⟨_,h_ rfl⟩
 have ynS:Be w1 W2:=by rw [← HW2.out];exact bR.alloc nl _
 have jQ:Hid (Be w W2):=h_ (tr hb1 ynS)
 have ydV:Hid (W2.heap[GS]?=some (.cells #[.bool bS,.slice pS nS cS,.slice qS mS dS] 59 (0,0))):=h_ (by rw [← HW2.out,← HGSx.out];exact World.alloc_heap_new w1 _)
 have HQS:Hid (jL W2 (.agg #[.bool bS,.slice pS nS cS,.slice qS mS dS]) s):=h_ (hqs.below ynS)
 clear hb1 ynS hqs
 go_wp2_with fail
 rw [HW2.out,HGSx.out]
 go_loopw [9] (fun iv wr=>∃ i:Nat,i≤n∧iv=.int .i64 i∧Hid (Be W2 wr)) (fun iv _=>n-(intOf iv).toNat)
 case atStart=>exact ⟨0,Nat.zero_le _,rfl,h_ bR⟩
 case round =>
  obtain ⟨i,hi,rfl,HB⟩:=hrel
  have ii:(i:Int)≤(n:Int):=by omega
  have HBW:Hid (Be w wr):=h_ (tr jQ.out HB.out)
  by_cases hlt:i<n
  ·have ilt:(i:Int)<(n:Int):=by omega
   obtain ⟨b1,o1,x,e1,hl1,hc1,hxx⟩:=(HP.out.below HBW.out).at (k:=i) (by rw [hx.out];exact hlt)
   obtain ⟨b2,o2,y,e2,hl2,hc2,hyy⟩:=(HQ.out.below HBW.out).at (k:=i) (by rw [hy.out];exact hlt)
   subst e1
   subst e2
   have HNE:=h_ (yn0.out i hlt)
   have HVX:=h_ (hvx.out i hlt)
   have HVY:=h_ (hvy.out i hlt)
   rw [hxx.out] at HVX HNE
   rw [hyy.out] at HVY HNE
   obtain ⟨f,HF⟩:=ez ((num x).isSome)
   have HF2:Hid ((num y).isSome=f):=h_ (by rw [← HNE.out.1];exact HF.out)
   obtain ⟨a,HA⟩:=ez (qv x)
   obtain ⟨b,HBQ⟩:=ez (qv y)
   obtain ⟨X,HX⟩:∃ X:ByteArray,Hid (⟨x.toArray⟩=X):=⟨_,rfl⟩
   obtain ⟨Y,HY⟩:∃ Y:ByteArray,Hid (⟨y.toArray⟩=Y):=⟨_,rfl⟩
   rw [HX.out] at hc1
   rw [HY.out] at hc2
   have HGX:Hid (∀ W,Calls Tryz.prog 31 #[.string X] W (ybW a f W)):=h_ (fun W=>by
    have h:=yxu x W HVX.out
    rwa [HX.out,HA.out,HF.out] at h)
   have HGY:Hid (∀ W,Calls Tryz.prog 31 #[.string Y] W (ybW b f W)):=h_ (fun W=>by
    have h:=yxu y W HVY.out
    rwa [HY.out,HBQ.out,HF2.out] at h)
   have HLA:Hid (uA 5 a):=h_ (by rw [← HA.out];exact yxg x)
   have HLB:Hid (uA 5 b):=h_ (by rw [← HBQ.out];exact yxg y)
   have HL2:=h_ hl2
   have HC2:=h_ hc2
   clear hl1 hl2 hc2
   go_wp2_with fail
   refine (HGX.out _).mono ?_
   rintro e w3 ⟨bX,pX,nX,cX,qX,mX,dX,rfl,hb3,hqx⟩
   obtain ⟨GX,HGXx⟩:∃ G,Hid (w3.heap.size=G):=⟨_,rfl⟩
   obtain ⟨W4,HW4⟩:∃ W4,Hid (w3.alloc (.cells #[.bool bX,.slice pX nX cX,.slice qX mX dX] 59)=W4):=⟨_,h_ rfl⟩
   have yjx:Be w3 W4:=by rw [← HW4.out];exact bR.alloc nl _
   have HR4:Hid (Be wr W4):=h_ (tr hb3 yjx)
   have HBX:Hid (W4.heap[GX]?=some (.cells #[.bool bX,.slice pX nX cX,.slice qX mX dX] 59 (0,0))):=h_ (by rw [← HW4.out,← HGXx.out];exact World.alloc_heap_new w3 _)
   have HQX:Hid (jL W4 (.agg #[.bool bX,.slice pX nX cX,.slice qX mX dX]) a):=h_ (hqx.below yjx)
   have hd2:=(HR4.out.cell (p:=⟨b2,o2+i,none⟩) HL2.out).trans HC2.out
   rw [← HW4.out] at hd2
   clear hb3 yjx hqx hc1
   go_wp2_with fail
   rw [HW4.out,HGXx.out]
   refine (HGY.out _).mono ?_
   rintro e w5 ⟨bY,pY,nY,cY,qY,mY,dY,rfl,hb5,hqy⟩
   obtain ⟨W6,HW6⟩:∃ W6,Hid (w5.alloc (.cells #[.bool bY,.slice pY nY cY,.slice qY mY dY] 59)=W6):=⟨_,h_ rfl⟩
   have yx2:Be w5 W6:=by rw [← HW6.out];exact bR.alloc nl _
   have HR6:Hid (Be W4 W6):=h_ (tr hb5 yx2)
   have yvs:W6.heap[GX]?=some (.cells #[.bool bX,.slice pX nX cX,.slice qX mX dX] 59 (0,0)):=(HR6.out.block GX (Array.getElem?_eq_some_iff.1 HBX.out).1).trans HBX.out
   have hx0:W6.cell? ⟨GX,0,none⟩=some (.bool bX):=by simp [World.cell?,yvs]
   have hx1:W6.cell? ⟨GX,1,none⟩=some (.slice pX nX cX):=by simp [World.cell?,yvs]
   have hx2:W6.cell? ⟨GX,2,none⟩=some (.slice qX mX dX):=by simp [World.cell?,yvs]
   rw [← HW6.out] at hx0 hx1 hx2
   have HMI:Hid (Calls Tryz.prog 51 #[.agg #[.bool bX,.slice pX nX cX,.slice qX mX dX],.agg #[.bool bY,.slice pY nY cY,.slice qY mY dY]] W6 (ye3 (a-b) W6)):=h_ ((yiS _ _ a b 5 5 W6 (by omega) HLA.out HLB.out (HQX.out.below HR6.out) (hqy.below yx2)).mono fun _ _ h=>h.c)
   have hff:(f != f)=false:=by simp
   clear hb5 yx2 hqy yvs hd2
   go_wp2_with fail
   rw [HW6.out]
   refine (HMI.out).mono ?_
   rintro e w7 ⟨bD,pD,nD,cD,qD,mD,dD,rfl,hqd,hb7⟩
   obtain ⟨GD,yx3⟩:∃ G,Hid (w7.heap.size=G):=⟨_,rfl⟩
   obtain ⟨W8,HW8⟩:∃ W8,Hid (w7.alloc (.cells #[.bool bD,.slice pD nD cD,.slice qD mD dD] 59)=W8):=⟨_,h_ rfl⟩
   have yx4:Be w7 W8:=by rw [← HW8.out];exact bR.alloc nl _
   have HR8:Hid (Be wr W8):=h_ (HR4.out.trans ((HR6.out.trans ((tr hb7 yx4).mono HR6.out.size)).mono HR4.out.size))
   have HBD:Hid (W8.heap[GD]?=some (.cells #[.bool bD,.slice pD nD cD,.slice qD mD dD] 59 (0,0))):=h_ (by rw [← HW8.out,← yx3.out];exact World.alloc_heap_new w7 _)
   have HQD:Hid (jL W8 (.agg #[.bool bD,.slice pD nD cD,.slice qD mD dD]) (a-b)):=h_ (hqd.below yx4)
   have yh2:Hid (Be W2 W8):=h_ (tr HB.out HR8.out)
   have ydW:Hid (∀ W,Be W8 W→Be W8 W∧W.cell? ⟨GD,0,none⟩=some (.bool bD)∧W.cell? ⟨GD,1,none⟩=some (.slice pD nD cD)∧W.cell? ⟨GD,2,none⟩=some (.slice qD mD dD)∧W.cell? ⟨GS,0,none⟩=some (.bool bS)∧W.cell? ⟨GS,1,none⟩=some (.slice pS nS cS)∧W.cell? ⟨GS,2,none⟩=some (.slice qS mS dS)):=h_ (fun W hW=>by
    have h1:=(hW.block GD (Array.getElem?_eq_some_iff.1 HBD.out).1).trans HBD.out
    have h2:W.heap[GS]?=_:=((tr yh2.out hW).block GS (Array.getElem?_eq_some_iff.1 ydV.out).1).trans ydV.out
    exact ⟨hW,by simp [World.cell?,h1],by simp [World.cell?,h1],by simp [World.cell?,h1],by simp [World.cell?,h2],by simp [World.cell?,h2],by simp [World.cell?,h2]⟩)
   obtain ⟨K1,hK1,hld⟩:=ymW HLA.out HLB.out
   have HLD:=h_ hld
   clear hld
   have HPL:Hid (∀ W,Be W8 W→Calls Tryz.prog 32 #[.agg #[.bool bD,.slice pD nD cD,.slice qD mD dD],.agg #[.bool bD,.slice pD nD cD,.slice qD mD dD]] W (ye3 (a-b+(a-b)) W)):=h_ (fun W hW=>(yg8 _ _ _ _ K1 K1 W (by omega) HLD.out HLD.out (HQD.out.below hW) (HQD.out.below hW)).mono fun _ _ h=>h.c)
   have HOP:Hid (∀ W,Be W8 W→Calls Tryz.prog 53 #[.agg #[.bool bS,.slice pS nS cS,.slice qS mS dS]] W (ye3 (-s) W)):=h_ (fun W hW=>(yjP _ s W (HQS.out.below (tr yh2.out hW))).mono fun _ _ h=>h.c)
   obtain ⟨z1,HZ1⟩:∃ z,Hid (GK (a-b+(a-b)-s)=z):=⟨_,rfl⟩
   obtain ⟨z2,HZ2⟩:∃ z,Hid (GK (a-b+(a-b) - -s)=z):=⟨_,rfl⟩
   have HCM1:Hid (∀ W v,Be W8 W→jL W v (a-b+(a-b))→Calls Tryz.prog 52 #[v,.agg #[.bool bS,.slice pS nS cS,.slice qS mS dS]] W (Rp (.int .i64 z1) W)):=h_ (fun W v hW hv=>by
    have h:=yez v _ _ s (K1+K1+1) 5 W (by omega) (HLD.out.add HLD.out) HSL.out hv (HQS.out.below (tr yh2.out hW))
    rwa [HZ1.out] at h)
   have HCM2:Hid (∀ W v u,Be W8 W→jL W v (a-b+(a-b))→jL W u (-s)→Calls Tryz.prog 52 #[v,u] W (Rp (.int .i64 z2) W)):=h_ (fun W v u hW hv hu=>by
    have h:=yez v u _ (-s) (K1+K1+1) 5 W (by omega) (HLD.out.add HLD.out) HSL.out.neg hv hu
    rwa [HZ2.out] at h)
   clear hb7 yx4 hqd hx0 hx1 hx2
   cases f with
   | false =>
    go_wp2_with fail
    rw [HW8.out,yx3.out]
    go_quiet ((fail))
    have HBF:Hid (Be W2 (W8.drewN nq)):=h_ (yh2.out.trans (yI _ _ nq))
    go_wp2
    go_roundw
    case rel=>exact ⟨i+1,by omega,by go_num,HBF⟩
    case measure=>simp [intOf];omega
   | true =>
    have hz1:z1≤0:=by
     have h:=(HNE.out.2 HF.out).1
     rw [HA.out,HBQ.out] at h
     rw [← HZ1.out];exact yyw (by grind)
    have hz2:0≤z2:=by
     have h:=(HNE.out.2 HF.out).2
     rw [HA.out,HBQ.out] at h
     rw [← HZ2.out];exact yyx (by grind)
    have hz1d:decide ((0:Int)<z1)=false:=decide_eq_false (by omega)
    have hz2d:decide (z2<(0:Int))=false:=decide_eq_false (by omega)
    have hz1n:¬ (0:Int)<z1:=by omega
    have hz2n:¬ z2<(0:Int):=by omega
    go_wp2_with fail
    rw [HW8.out,yx3.out]
    go_region_held3 (fun W=>Be W8 W∧W.cell? ⟨GD,0,none⟩=some (.bool bD)∧W.cell? ⟨GD,1,none⟩=some (.slice pD nD cD)∧W.cell? ⟨GD,2,none⟩=some (.slice qD mD dD)∧W.cell? ⟨GS,0,none⟩=some (.bool bS)∧W.cell? ⟨GS,1,none⟩=some (.slice pS nS cS)∧W.cell? ⟨GS,2,none⟩=some (.slice qS mS dS))
     (first|exact ydW.out _ bR|exact ydW.out _ bR.drew|(go_split_ands;exact ydW.out _ hA.out)|(go_split_ands;exact ydW.out _ hB.out)|(go_split_ands;exact ydW.out _ hC.out)|(go_split_ands;exact ydW.out _ hE.out)|(go_split_ands;exact ydW.out _ hF.out))
     (first|(go_at_call 53;go_split_ands;refine (HOP.out _ (by assumption)).mono ?_;rintro e wE ⟨sE,pE,nE,cE,qE,mE,dE,rfl,hqE,hbE⟩;have hE:Hid (Be W8 wE):=h_ (Below.trans (by assumption) (hbE.mono (Below.size (by assumption)))))|(go_at_call 32;go_split_ands;have hx:=hbB;refine (HPL.out _ (by assumption)).mono ?_;rintro e wC ⟨sC,pC,nC,cC,qC,mC,dC,rfl,hqC,hbC⟩;have hC:Hid (Be W8 wC):=h_ (Below.trans (by assumption) (hbC.mono (Below.size (by assumption)))))|(go_at_call 32;go_split_ands;refine (HPL.out _ (by assumption)).mono ?_;rintro e wA ⟨sA,pA,nA,cA,qA,mA,dA,rfl,hqA,hbA⟩;have hA:Hid (Be W8 wA):=h_ (Below.trans (by assumption) (hbA.mono (Below.size (by assumption)))))|(go_at_call 52;go_split_ands;have hx:=hbB;refine (HCM2.out _ _ _ (by assumption) (by first|exact hqC|exact hqC.below hbE|exact hqC.dr|exact (hqC.below hbE).dr) (by first|exact hqE|exact hqE.below hbC|exact hqE.dr|exact (hqE.below hbC).dr)).mono ?_;rintro e wF ⟨rfl,hbF⟩;have hF:Hid (Be W8 wF):=h_ (Below.trans (by assumption) (hbF.mono (Below.size (by assumption)))))|(go_at_call 52;go_split_ands;refine (HCM1.out _ _ (by assumption) (by first|exact hqA|exact hqA.dr)).mono ?_;rintro e wB ⟨rfl,hbB⟩;have hB:Hid (Be W8 wB):=h_ (Below.trans (by assumption) (hbB.mono (Below.size (by assumption))))))
    all_goals
     have HBF:Hid (Be W2 wF):=h_ (tr yh2.out hF.out)
     go_wp2
     go_roundw
     case rel=>exact ⟨i+1,by omega,by go_num,HBF⟩
     case measure=>simp [intOf];omega
  ·obtain rfl:i=n:=by omega
   have ilt:¬ (i:Int)<(i:Int):=by omega
   go_wp2
   go_ret
   exact ⟨rfl,HBW.out⟩
theorem ylU:(0:Rat)<jS:=by have:=yeQ;grind
theorem yuI:jS<1:=by have:=yeQ;have:=ylU;grind
theorem ypf (m:Int):((m:Rat)+jS).floor=m:=by
 have h1:=Rat.floor_le ((m:Rat)+jS)
 have h2:=Rat.lt_floor_add_one ((m:Rat)+jS)
 have h3:=ylU
 have h4:=yuI
 have h5:((((m:Rat)+jS).floor:Int):Rat)<((m+1:Int):Rat):=by rw [Rat.intCast_add];grind
 have h6:(m:Rat)<(((((m:Rat)+jS).floor+1:Int)):Rat):=by grind
 have h7:=Rat.intCast_lt_intCast.1 h5
 have h8:=Rat.intCast_lt_intCast.1 h6
 omega
theorem yrn (a b:Rat) (hb:0<b):GO (GO a b) b=GO a b:=by
 have hb0:b≠0:=by grind
 have e:GO a b/b=((a/b+jS).floor:Int):=by
  unfold GO
  rw [ydN,Rat.div_def,Rat.mul_assoc,Rat.mul_inv_cancel b hb0,Rat.mul_one]
 have e2:GO (GO a b) b=yeU (GO a b/b+jS)*b:=rfl
 rw [e2,e,ydN,ypf]
 unfold GO
 rw [ydN]
theorem yuJ {s:Lb} (h:yba s=true):∃ b:Rat,num s=some b∧0<b:=by
 unfold yba yeW at h
 rw [yuT] at h
 cases hn:num s with
 | none=>rw [hn] at h;cases h
 | some b =>
  rw [hn] at h
  simp only [Bool.true_and,decide_eq_true_eq] at h
  refine ⟨b,rfl,?_⟩
  rcases ycX (b-0) with ⟨_,e⟩|⟨_,e⟩|⟨h2,_⟩
  ·rw [e] at h;omega
  ·rw [e] at h;omega
  ·grind
theorem ylV {x s:Lb} {a b:Rat} (hx:num x=some a) (hs:num s=some b) (hb:0<b):uW x s=txt (GO a b):=by
 unfold uW
 rw [hx,hs]
 show (if GK b=1 then txt (GO a b) else [])=_
 rw [if_pos ((yjT b).2 hb)]
theorem yfB {k:Int} {x:Lb} (h:zK k x=true):x=[]∨(num x).isSome=true:=by
 by_cases hx:x=[]
 ·exact .inl hx
 ·have he:x.isEmpty=false:=by
   cases x with
   | nil=>exact absurd rfl hx
   | cons=>rfl
  refine .inr ?_
  unfold zK at h
  rw [he] at h
  simp only [Bool.false_or] at h
  have key:∀ B,(GL B x).isSome=true→(num x).isSome=true:=fun B hB=>by
   unfold GL at hB
   cases hn:num x with
   | none=>rw [hn] at hB;cases hB
   | some q=>rfl
  split at h
  ·exact key _ h
  ·split at h
   ·exact key _ h
   ·split at h
    ·exact key _ h
    ·split at h
     ·exact key _ h
     ·split at h
      ·exact h
      ·cases h
theorem ypg {k:Int} {x s:Lb} {b:Rat} (hs:num s=some b) (hb:0<b) (hf:zK k x=true) (ynV:zN k s x=false):zK k (uW x s)=true∧uW (uW x s) s=uW x s∧ygO b x (uW x s):=by
 unfold zN at ynV
 rw [Bool.or_eq_false_iff] at ynV
 have h2:zK k (uW x s)=true:=by simpa using ynV.2
 refine ⟨h2,?_⟩
 rcases yfB hf with rfl|hx
 ·rw [ygj,ygj]
  refine ⟨rfl,rfl,fun h=>?_⟩
  rw [ycN] at h;cases h
 ·obtain ⟨a,ha⟩:=Option.isSome_iff_exists.1 hx
  have hxe:x≠[]:=fun e=>by rw [e,ycN] at ha;cases ha
  have h1:=ynV.1
  rw [decide_eq_false hxe,Bool.not_false,Bool.true_and,decide_eq_false_iff_not] at h1
  have e:=ylV ha hs hb
  rw [e] at h1 ⊢
  have hn:=yp8 h1
  refine ⟨by rw [ylV hn hs hb,yrn a b hb],?_,fun _=>?_⟩
  ·rw [ha,hn];rfl
  ·unfold qv
   rw [ha,hn]
   show a-GO a b+(a-GO a b)≤b∧-b≤a-GO a b+(a-GO a b)
   obtain ⟨g1,g2⟩:=yuF a b hb
   have ht:b*jS+b*jS=b:=by rw [← Rat.mul_add,yeQ,Rat.mul_one]
   constructor<;>grind
theorem ylW {k:Int} {ss:List Sg} {xs:List Lb} (h:ydb k ss xs=0) (hr:uM ss=true):∃ b,num (zV ss)=some b∧vH k (ycc xs (zV ss))=0∧ycc (ycc xs (zV ss)) (zV ss)=ycc xs (zV ss)∧(ycc xs (zV ss)).any (zN k (zV ss))=false∧∀ x ∈ xs,ygO b x (uW x (zV ss)):=by
 obtain ⟨h1,h2,h3,-⟩:=yaw h
 obtain ⟨b,hnb,hb0⟩:=yuJ (ybR h1 hr).1
 have yn1:∀ x ∈ xs,zK k (uW x (zV ss))=true∧uW (uW x (zV ss)) (zV ss)=uW x (zV ss)∧ygO b x (uW x (zV ss)):=fun x hx2 =>
  ypg hnb hb0 (yeG h2 x hx2) (by have:=List.any_eq_false.1 (h3 hr) x hx2;simpa using this)
 refine ⟨b,hnb,ypn (ypo h2) (fun y hy=>?_),?_,?_,fun x hx=>(yn1 x hx).2.2⟩
 ·obtain ⟨x,hx2,rfl⟩:=List.mem_map.1 hy
  exact (yn1 x hx2).1
 ·unfold ycc
  rw [List.map_map]
  exact List.map_congr_left (fun x hx2=>(yn1 x hx2).2.1)
 ·rw [List.any_eq_false]
  intro y hy
  obtain ⟨x,hx2,rfl⟩:=List.mem_map.1 hy
  obtain ⟨g1,g2,-⟩:=yn1 x hx2
  unfold zN
  rw [g2,g1]
  by_cases h:uW x (zV ss)=[]
  ·rw [decide_eq_true h];simp
  ·rw [decide_eq_false h];simp
theorem yro {k:Int} {ss:List Sg} {xs:List Lb} (h:ydb k ss xs=0):ydb k ss (uP ss xs)=0∧uP ss (uP ss xs)=uP ss xs:=by
 obtain ⟨h1,h2,h3,-⟩:=yaw h
 cases hr:uM ss with
 | false =>
  have e:uP ss xs=xs:=by unfold uP;rw [hr];rfl
  rw [e];exact ⟨h,e⟩
 | true =>
  have e:∀ l,uP ss l=ycc l (zV ss):=fun l=>by unfold uP;rw [hr];rfl
  obtain ⟨b,-,g1,g2,g3,-⟩:=ylW h hr
  rw [e,e]
  refine ⟨?_,g2⟩
  unfold ydb
  rw [if_neg (by rw [h1];decide),if_neg (by rw [g1];decide),hr,g3]
  rfl
theorem ymX (k:Int) (p q:Oa) (c d n m:Nat) (ss:List Sg) (xs:List Lb) (w:World) (he:Env w) (hx:Hid (ss.length=n)) (hs:RdG w p ss) (hy:Hid (xs.length=m)) (hq:Ss w q xs) :
  Calls Tryz.prog 5 #[.agg #[.int .i64 k,.slice p n c,.slice q m d]] w fun e w'=>Be w w'∧e=.returned (.bool true):=by
 have HE:=h_ he
 have HS:=h_ hs
 have HQ:=h_ hq
 have ykV:Hid (∀ W,Be w W→Calls Tryz.prog 10 #[] W (Rp (.bool true) W)):=h_ (fun W hW=>yuf W (HE.out.below hW))
 obtain ⟨W0,HW0⟩:∃ W0,Hid (w.alloc (.cells #[.int .i64 k,.slice p n c,.slice q m d] 38)=W0):=⟨_,h_ rfl⟩
 have GU:Hid (Be w W0):=h_ (by rw [← HW0.out];exact bR.alloc nl _)
 obtain ⟨B,HBX⟩:=ez (w.heap.size)
 have yaV:Hid (W0.heap[B]?=some (.cells #[.int .i64 k,.slice p n c,.slice q m d] 38 (0,0))):=h_ (by rw [← HW0.out,← HBX.out];exact World.alloc_heap_new w _)
 have yfj:Hid (∀ W:World,Be W0 W→W.cell? ⟨B,0,none⟩=some (.int .i64 k)∧W.cell? ⟨B,1,none⟩=some (.slice p n c)∧W.cell? ⟨B,2,none⟩=some (.slice q m d)):=h_ (fun W hW=>by
  have h:=(hW.block B (Array.getElem?_eq_some_iff.1 yaV.out).1).trans yaV.out
  exact ⟨by simp [World.cell?,h],by simp [World.cell?,h],by simp [World.cell?,h]⟩)
 have HR0:=h_ (Below.refl W0.heap.size W0)
 obtain ⟨hc0,hc1,hc2⟩:=yfj.out W0 HR0.out
 have HLG:Hid (∀ W,Be w W→Calls Tryz.prog 17 #[.slice q m d] W (Qp (.bool (ygc xs)) W)):=h_ (fun W hW=>yuh q d m xs W hy (HQ.out.below hW))
 have HST:Hid (∀ W,Be w W→Calls Tryz.prog 9 #[.slice p n c] W (Qp (.bool (ydZ ss)) W)):=h_ (fun W hW=>yq9 p c n ss W hx (HS.out.below hW))
 obtain ⟨bl,HBL⟩:∃ b,Hid (ygc xs=b):=⟨_,rfl⟩
 obtain ⟨bs,HBS⟩:∃ b,Hid (ydZ ss=b):=⟨_,rfl⟩
 rw [HBL.out] at HLG
 rw [HBS.out] at HST
 clear he hs hq
 cases bl with
 | true =>
  go_in
  go_wp2_with fail
  rw [HW0.out,HBX.out]
  go_wp2_with fail
  refine (HLG.out _ GU.out).mono ?_
  rintro e w' ⟨rfl,rfl⟩
  go_wp2_with fail
  refine (ykV.out _ GU.out).mono ?_
  rintro e w9 ⟨rfl,hb9⟩
  have HB9:=th GU hb9
  clear hb9
  go_wp2
  go_ret
  exact ⟨HB9.out,rfl⟩
 | false =>
 by_cases hm:60<m
 ·have hmi:(60:Int)<(m:Int):=by omega
  go_in
  go_wp2_with fail
  rw [HW0.out,HBX.out]
  go_wp2_with fail
  refine (HLG.out _ GU.out).mono ?_
  rintro e w' ⟨rfl,rfl⟩
  go_wp2_with fail
  refine (ykV.out _ GU.out).mono ?_
  rintro e w9 ⟨rfl,hb9⟩
  have HB9:=th GU hb9
  clear hb9
  go_wp2
  go_ret
  exact ⟨HB9.out,rfl⟩
 have hmi:¬ (60:Int)<(m:Int):=by omega
 have hmi2:(m:Int)≤60:=by omega
 cases bs with
 | true =>
  go_in
  go_wp2_with fail
  rw [HW0.out,HBX.out]
  go_wp2_with fail
  refine (HLG.out _ GU.out).mono ?_
  rintro e w' ⟨rfl,rfl⟩
  go_wp2_with fail
  refine (HST.out _ GU.out).mono ?_
  rintro e w' ⟨rfl,rfl⟩
  go_wp2_with fail
  refine (ykV.out _ GU.out).mono ?_
  rintro e w9 ⟨rfl,hb9⟩
  have HB9:=th GU hb9
  clear hb9
  go_wp2
  go_ret
  exact ⟨HB9.out,rfl⟩
 | false =>
 obtain ⟨z,HZ⟩:=ez (ydb k ss xs)
 by_cases hz:z=0
 case neg =>
  have HEN:=h_ (yvR k p q c d n m ss xs W0 (HE.out.below GU.out) hx (HS.out.below GU.out) hy (by omega) (HQ.out.below GU.out) z hz HZ.out)
  have HRE:Hid (∀ W,Be w W→Calls Tryz.prog 23 #[.int .i64 k,.slice p n c,.slice q m d] W (Rp (.tuple #[.slice none 0 0,.int .i64 z]) W)):=h_ (fun W hW=>ytn k p q c d n m ss xs W hx (HS.out.below hW) hy (by omega) (HQ.out.below hW) z hz HZ.out)
  have HIS:Hid (∀ W,Calls Tryz.prog 24 #[.slice none 0 0,.int .i64 z,.slice none 0 0,.int .i64 z] W (Rp (.bool true) W)):=h_ (fun W=>ysB none none 0 0 0 z [] W (h_ rfl) (.inl rfl) (.inl rfl))
  have gz:(z != 0)=true:=by rw [bne_iff_ne];exact hz
  have HZN:=h_ hz
  clear hz
  go_in
  go_wp2_with fail
  rw [HW0.out,HBX.out]
  go_wp2_with fail
  refine (HLG.out _ GU.out).mono ?_
  rintro e w' ⟨rfl,rfl⟩
  go_wp2_with fail
  refine (HST.out _ GU.out).mono ?_
  rintro e w' ⟨rfl,rfl⟩
  go_wp2_with fail
  refine (HEN.out).mono ?_
  rintro e w1 ⟨rfl,hb1⟩
  have yX:=th GU hb1
  obtain ⟨kc0,kc1,kc2⟩:=yfj.out w1 hb1
  clear hb1 hc0 hc1 hc2
  go_wp2_with fail
  refine (HRE.out _ yX.out).mono ?_
  rintro e w2 ⟨rfl,hb2⟩
  have jQ:=th yX hb2
  clear hb2 kc0 kc1 kc2
  go_wp2_with fail
  refine (HIS.out _).mono ?_
  rintro e w3 ⟨rfl,hb3⟩
  have HB3:=th jQ hb3
  clear hb3
  go_wp2_with fail
  refine (ykV.out _ HB3.out).mono ?_
  rintro e w9 ⟨rfl,hb9⟩
  have HB9:=th HB3 hb9
  clear hb9
  go_wp2
  go_ret
  exact ⟨HB9.out,rfl⟩
 subst hz
 have HEN:=h_ (yk8 k p q c d n m ss xs W0 (HE.out.below GU.out) hx (HS.out.below GU.out) hy (by omega) (HQ.out.below GU.out) HZ.out)
 have HRE:Hid (∀ W,Be w W→Calls Tryz.prog 23 #[.int .i64 k,.slice p n c,.slice q m d] W fun e w'=>∃ v,e=.returned (.tuple #[v,.int .i64 0])∧PutG W (jU (ybv k ss xs)) w' v):=h_ (fun W hW=>yqp k p q c d n m ss xs W hx (HS.out.below hW) hy (by omega) (HQ.out.below hW) HZ.out)
 obtain ⟨ys,HYS⟩:=ez (uP ss xs)
 have HYL:Hid (ys.length=m):=h_ (by rw [← HYS.out,ycz,hy.out])
 have HAG:=yro HZ.out
 rw [HYS.out] at HAG
 have HEA:Hid (∀ W q2,Be w W→Ss W q2 ys→Calls Tryz.prog 22 #[.int .i64 k,.slice p n c,.slice q2 m m] W fun e w'=>∃ v,e=.returned (.tuple #[v,.int .i64 0])∧PutG W (jU (ybv k ss xs)) w' v):=h_ (fun W q2 hW hS=>by
  have h:=yk8 k p q2 c m n m ss ys W (HE.out.below hW) hx (HS.out.below hW) HYL (by omega) hS HAG.1
  have e:ybv k ss ys=ybv k ss xs:=by unfold ybv;rw [HAG.2,HYS.out]
  rwa [e] at h)
 have HDE:Hid (∀ W1 v B,Be w W1→W1.ownsRow B 5 1 v (jU (ybv k ss xs)).length (zG (jU (ybv k ss xs)))→∃ b off mm cv,v=.slice (some ⟨b,off,none⟩) mm cv∧(mm:Int)≤100000∧Hid (∀ W,Be W1 W→Calls Tryz.prog 25 #[.int .i64 k,.slice p n c,.int .i64 (m:Int),v] W fun e w'=>∃ q,e=.returned (.tuple #[.slice q m m,.int .i64 0])∧Ss w' q ys∧Be W w')):=h_ (fun W1 v B hW ho=>ywW HE.out hx HS.out hy (by omega) HZ.out HYS.out hW ho)
 obtain ⟨lb,HLB⟩:=ez (jU (ybv k ss xs))
 rw [HLB.out] at HEN HRE HEA HDE
 obtain ⟨mm,HMM⟩:=ez (lb.length)
 obtain ⟨X,HX⟩:∃ X:ByteArray,Hid (⟨lb.toArray⟩=X):=⟨_,rfl⟩
 clear HAG
 go_in
 go_wp2_with fail
 rw [HW0.out,HBX.out]
 go_wp2_with fail
 refine (HLG.out _ GU.out).mono ?_
 rintro e w' ⟨rfl,rfl⟩
 go_wp2_with fail
 refine (HST.out _ GU.out).mono ?_
 rintro e w' ⟨rfl,rfl⟩
 go_wp2_with fail
 refine (HEN.out).mono ?_
 rintro e w1 ⟨v1,rfl,hg1⟩
 have yX:=h_ (tr GU.out hg1.below)
 have vI:=h_ hg1.below
 obtain ⟨p1,cc1,rfl,ynY,yh5⟩:=yS hg1.own
 have HBY1:=h_ ynY
 obtain ⟨b1,off1,mm1,cv1,hv1,hmm1,HDC⟩:=HDE.out w1 _ _ yX.out hg1.own
 rw [HMM.out] at hv1 HDC ⊢
 obtain ⟨kc0,kc1,kc2⟩:=yfj.out w1 vI.out
 clear hg1 ynY hc0 hc1 hc2 yh5 hv1 hmm1
 go_wp2_with fail
 refine (HRE.out _ yX.out).mono ?_
 rintro e w2 ⟨v2,rfl,hg2⟩
 have jQ:=h_ (tr yX.out hg2.below)
 have HW2:=h_ (tr vI.out hg2.below)
 have HV2:=h_ hg2.below
 obtain ⟨p2,cc2,rfl,hbs2,ynU⟩:=yS hg2.own
 have HIS:=h_ (ysB p1 p2 lb.length cc1 cc2 0 lb w2 (h_ rfl) (HBY1.out.below hg2.below) hbs2)
 rw [HMM.out] at HIS ⊢
 clear hg2 hbs2 ynU kc0 kc1 kc2
 go_wp2_with fail
 refine (HIS.out).mono ?_
 rintro e w3 ⟨rfl,hb3⟩
 have HB3:=th jQ hb3
 have HW3:=th HW2 hb3
 have HV3:=th HV2 hb3
 clear hb3
 go_wp2_with fail
 refine (ykV.out _ HB3.out).mono ?_
 rintro e w4 ⟨rfl,hb4⟩
 have HB4:=th HB3 hb4
 have HW4:=th HW3 hb4
 have HV4:=th HV3 hb4
 obtain ⟨ic0,ic1,ic2⟩:=yfj.out w4 HW4.out
 clear hb4
 go_wp2_with fail
 refine (HDC.out _ HV4.out).mono ?_
 rintro e w5 ⟨q5,rfl,hq5,hb5⟩
 have HB5:=th HB4 hb5
 have HW5:=th HW4 hb5
 have HV5:=th HV4 hb5
 have HQ5:=h_ hq5
 have HEB:=h_ (HEA.out w5 q5 HB5.out hq5)
 obtain ⟨jc0,jc1,jc2⟩:=yfj.out w5 HW5.out
 clear hb5 hq5 ic0 ic1 ic2
 go_wp2_with fail
 refine (HEB.out).mono ?_
 rintro e w6 ⟨v6,rfl,hg6⟩
 have HB6:=h_ (tr HB5.out hg6.below)
 have HW6:=h_ (tr HW5.out hg6.below)
 have HQ6:=h_ (HQ5.out.below hg6.below)
 obtain ⟨p6,cc6,rfl,yvq,hcap6⟩:=yS hg6.own
 have yvt:=GG w6 p6 cc6 lb yvq
 have yvu:=GG w6 p1 cc1 lb ((HBY1.out.below HV5.out).below hg6.below)
 rw [HMM.out,HX.out] at yvt yvu
 rw [HMM.out]
 obtain ⟨lc0,lc1,lc2⟩:=yfj.out w6 HW6.out
 clear hg6 yvq hcap6 jc0 jc1 jc2
 obtain ⟨rb,HRB⟩:=ez (uM ss)
 cases rb with
 | false =>
  have HYX:Hid (ys=xs):=h_ (by rw [← HYS.out];unfold uP;rw [HRB.out];rfl)
  have HQX:=h_ (HQ6.out)
  rw [HYX.out] at HQX
  have HSM:=h_ (yug q5 q m d m xs w6 hy (by omega) HQX.out (HQ.out.below HB6.out))
  by_cases h0:n=0
  ·subst h0
   go_wp2_with fail
   refine (HSM.out).mono ?_
   rintro e w7 ⟨hb7,rfl⟩
   have HB7:=th HB6 hb7
   clear hb7 yvt yvu lc0 lc1 lc2
   go_wp2
   go_ret
   exact ⟨HB7.out,rfl⟩
  ·have hn0:(0:Int)<(n:Int):=by omega
   obtain ⟨b3,o3,x0,y0,s0,e1,hbl,hd1,hd2,hd3,hx1⟩:=(HS.out.below HB6.out).at (k:=0) (by rw [hx.out];omega)
   rw [Nat.zero_mul,Nat.add_zero] at hd1
   have hx01:(x0==1)=false:=by
    rw [beq_eq_false_iff_ne]
    intro h
    have h2:=HRB.out
    unfold uM at h2
    rw [hx1.out,decide_eq_true (by rw [hx.out];omega),decide_eq_true (by exact h)] at h2
    cases h2
   subst e1
   clear hd2 hd3 hbl
   go_wp2_with fail
   refine (HSM.out).mono ?_
   rintro e w7 ⟨hb7,rfl⟩
   have HB7:=th HB6 hb7
   clear hb7 yvt yvu lc0 lc1 lc2
   go_wp2
   go_ret
   exact ⟨HB7.out,rfl⟩
 | true =>
  obtain ⟨b,hnb,hcy,-,-,yn0⟩:=ylW HZ.out HRB.out
  have hyx:ycc xs (zV ss)=ys:=by rw [← HYS.out];unfold uP;rw [HRB.out];rfl
  rw [hyx] at hcy
  have HCX:=h_ (yaw HZ.out).2.1
  have HVX:Hid (∀ j,j<m→xs.getD j []=[]∨(num (xs.getD j [])).isSome=true):=h_ (fun j hj=>by
   have h1:j<xs.length:=by rw [hy.out];exact hj
   rw [gD h1]
   exact yfB (yeG HCX.out _ (List.getElem_mem h1)))
  have HVY:Hid (∀ j,j<m→ys.getD j []=[]∨(num (ys.getD j [])).isSome=true):=h_ (fun j hj=>by
   have h1:j<ys.length:=by rw [HYL.out];exact hj
   rw [gD h1]
   exact yfB (yeG hcy _ (List.getElem_mem h1)))
  have HNR:Hid (∀ j,j<m→ygO b (xs.getD j []) (ys.getD j [])):=h_ (fun j hj=>by
   have h1:j<xs.length:=by rw [hy.out];exact hj
   rw [← hyx,yjY h1,List.getD_eq_getElem?_getD,List.getElem?_eq_getElem h1]
   exact yn0 _ (List.getElem_mem h1))
  have yjk:0<ss.length:=(ybR (yaw HZ.out).1 HRB.out).2
  have hn0:(0:Int)<(n:Int):=by have:=hx.out;omega
  have HNE:Hid (∀ W,Be w W→Ss W q5 ys→Calls Tryz.prog 21 #[.slice q m d,.slice q5 m m,.string ⟨(zV ss).toArray⟩] W (Rp (.bool true) W)):=h_ (fun W hW hS=>yuH q q5 d m m xs ys (zV ss) b W hy HYL (by omega) (HQ.out.below hW) hS hnb HVX HVY HNR)
  obtain ⟨b3,o3,x0,y0,s0,e1,hbl,hd1,hd2,hd3,hx1⟩:=(HS.out.below HB6.out).at (k:=0) yjk
  rw [Nat.zero_mul,Nat.add_zero] at hd1 hd3
  have hx01:x0=1:=by
   have h2:=HRB.out
   unfold uM at h2
   rw [hx1.out,Bool.and_eq_true,decide_eq_true_eq,decide_eq_true_eq] at h2
   exact h2.2
  have yjl:zV ss=s0:=by unfold zV;rw [hx1.out]
  rw [yjl] at HNE
  obtain ⟨Z,HZB⟩:∃ Z:ByteArray,Hid (⟨s0.toArray⟩=Z):=⟨_,rfl⟩
  rw [HZB.out] at HNE hd3
  subst hx01
  subst e1
  have HN6:Hid (∀ W,Be w6 W→Calls Tryz.prog 21 #[.slice q m d,.slice q5 m m,.string Z] W fun e w'=>e=.returned (.bool true)∧Hid (Be w6 w')):=h_ (fun W hW=>(HNE.out W (tr HB6.out hW) (HQ6.out.below hW)).mono fun _ _ h=>⟨h.1,h_ (tr hW h.2)⟩)
  have ydW:Hid (∀ W,Be w6 W→Be w6 W∧W.cell? ⟨B,1,none⟩=some (.slice (some ⟨b3,o3,none⟩) n c)∧W.cell? ⟨B,2,none⟩=some (.slice q m d)∧W.cell? ⟨b3,o3+2,none⟩=some (.string Z)):=h_ (fun W hW=>⟨hW,(yfj.out W (tr HW6.out hW)).2.1,(yfj.out W (tr HW6.out hW)).2.2,(hW.cell (p:=⟨b3,o3+2,none⟩) hbl).trans hd3⟩)
  clear hd2 hbl hnb hcy yn0 hyx yjk yjl
  go_wp2_with fail
  clear yvt yvu lc0 lc1 lc2 hd1 hd3
  go_region_held3 (fun W=>Be w6 W∧W.cell? ⟨B,1,none⟩=some (.slice (some ⟨b3,o3,none⟩) n c)∧W.cell? ⟨B,2,none⟩=some (.slice q m d)∧W.cell? ⟨b3,o3+2,none⟩=some (.string Z))
   (first|exact ydW.out _ bR|exact ydW.out _ bR.drew|(go_split_ands;exact ydW.out _ h7.out))
   ((go_at_call 21;go_split_ands;refine (HN6.out _ (by assumption)).mono ?_;rintro e w7 ⟨rfl,h7⟩))
  all_goals
   have HB7:=h_ (tr HB6.out h7.out)
   go_wp2
   go_ret
   exact ⟨HB7.out,rfl⟩
end
section
open Go.ChangeMaps Go.ChangeShapes Go.WideShapes Go.ChangeAt Go.RowKit
theorem yAs:ownKnob Tryz.prog.godebug=none:=by kernel_rfl
section
variable {H : Type} {enc : TypeId × Value → H} {P : Program}
theorem yit {f:Func} {s:ChangeSpec} {apart fresh handsOn again:Bool} {W W':World} {args:Array Value} {v:Value} {ds gs:List (DataW H)} {before pa pv:List MemPlace}
  (hW:DataW.Whole enc P f.params.toList s.vars apart W args.toList ds gs before)
  (zF:∀ (b:Nat) (sp:Nat→Bool) (hd:Bool),DataW.TrodAll enc P W' b sp hd f.resultTypes.toList (v.resultList f.resultTypes.size) (s.fn H (ds++gs)).results [])
  (ysp:∀ sp:Nat→Bool,(∀ p ∈ before,sp p.block=true)→DataW.TrodAll enc P W' 0 sp true f.params.toList args.toList (s.fn H (ds++gs)).args pa)
  (hvars:∀ sp:Nat→Bool,(∀ p ∈ before,sp p.block=true)→DataW.TrodVars enc P W' sp s.vars (s.fn H (ds++gs)).vars pv)
  (hps:before=pa++pv) (hb:Be W W')
  (hok:∀ (j:Nat) (t:TypeId) (r:Value),f.resultTypes[j]?=some t→(v.resultList f.resultTypes.size)[j]?=some r→Value.okWide P W' .any 0 t r) :
  s.post enc P f apart fresh handsOn again W args v W':=by
 have hlt:∀ p ∈ before,p.block<W.heap.size:=fun p hp=>hW.lt p hp
 have hold:∀ p ∈ before,(fun b=>decide (b<W.heap.size)) p.block=true:=fun p hp=>by simpa using hlt p hp
 refine ⟨ds,gs,before,[],pa,pv,hW,zF _ _ _,ysp _ hold,hvars _ hold,World.keptBut_mono (fun p hp=>⟨hp,?_⟩) (hb.frame (· ∈ before)),fun _=>?_⟩
 ·rw [hps,List.mem_append] at hp
  exact Or.inr hp
 ·obtain ⟨_,_,_,_,_,hz,hn⟩:=hW
  refine ⟨hok,_,_,([]++pa)++pv,⟨[]++pa,pv,trodAll_append (ysp _ (fun _ _=>rfl)) (zF _ _ _),hvars _ (fun _ _=>rfl),rfl,?_,?_⟩,?_⟩
  ·intro b off hp
   have hin:MemPlace.cell b off ∈ before:=by rw [hps];simpa using hp
   rw [hb.frozen (hlt _ hin)]
   exact hz b off hin
  ·intro ha
   have:=hn ha
   rw [hps] at this
   simpa using this
  ·intro p hp _
   rw [hps]
   simpa using hp
end
section
variable {H : Type} {enc : TypeId × Value → H} {P : Program}
theorem yiu (hl:laidOutB P=true) {W W':World} (hb:Be W W') (sp:Nat→Bool) :
  ∀ (ts:List TypeId) (vs:List Value) (ds:List (DataW H)) (ps:List MemPlace),(∀ t ∈ ts,P.readableRec t=true)→(∀ t ∈ ts,t<P.types.size) →
   DataW.TrodAll enc P W 0 (fun _=>true) true ts vs ds ps→(∀ x ∈ ps,x.block<W.heap.size)→(∀ x ∈ ps,sp x.block=true)→DataW.TrodAll enc P W' 0 sp true ts vs ds ps:=by
 intro ts
 induction ts with
 | nil =>
  intro vs ds ps _ _ h _ _
  obtain ⟨rfl,rfl,rfl⟩:=trodAll_nil h
  exact trodAll_mk0
 | cons t ts ih =>
  intro vs ds ps hr vB h hlt hsp
  obtain ⟨v,vs',d,ds',p,q,rfl,rfl,rfl,h0,h1⟩:=trodAll_cons h
  exact trodAll_cons_mk (WideElems.Trod_stays hl (hr t (by simp)) (vB t (by simp)) h0 (fun x hx=>hb.same (hlt x (by simp [hx]))) (fun x hx=>hsp x (by simp [hx])))
   (ih vs' ds' q (fun t ht=>hr t (by simp [ht])) (fun t ht=>vB t (by simp [ht])) h1 (fun x hx=>hlt x (by simp [hx])) (fun x hx=>hsp x (by simp [hx])))
end
theorem yAt : Tryz.prog.globalNamed "internal/strconv.uint64pow10" = some 4 := by kernel_rfl
theorem yuK:(Tryz.prog.globals[4]?).map (·.type)=some 259:=by kernel_rfl
theorem yuL:Tryz.prog.cellsOf 259=20:=by kernel_rfl
theorem ywX:Tryz.prog.cellsOf 86=1:=by kernel_rfl
theorem yy7 : Tryz.prog.globalNamed "strconv.ErrSyntax" = some 0 := by kernel_rfl
theorem yuM:(Tryz.prog.globals[0]?).map (·.type)=some 125:=by kernel_rfl
theorem yy8 : Tryz.prog.globalNamed "strconv.ErrRange" = some 1 := by kernel_rfl
theorem yuN:(Tryz.prog.globals[1]?).map (·.type)=some 125:=by kernel_rfl
theorem yp5 : "*" ++ "errors.errorString" = "*errors.errorString" := by decide
theorem ysT (u : TypeId) (h : Tryz.prog.typeName? 3 u = some "*errors.errorString") : u = 252 :=
 typeName_ptr_named (nm := "errors.errorString") (by rw [yp5]; kernel_rfl) (by kernel_rfl) (by decide) u (by rw [yp5]; exact h)
theorem ywY {W:World} (h:laidMet Tryz.prog Rows.codecValidRow.laid W):Env W:=by
 have h3:=laidMet.tail (laidMet.tail h)
 have h4:=laidMet.tail h3
 have h5:=laidMet.tail h4
 refine ⟨Lib.tabIs_of_head yAt yuK Tryz.underlying259 Tryz.underlying86 ywX yuL h3,?_,?_⟩
 ·obtain ⟨a,s,hv,-,-,-⟩:=laid_sentinel h5 yy7 yuM Tryz.underlying125 ysT Tryz.underlying252 Tryz.underlying254 rfl rfl Tryz.underlying9 (by kernel_rfl) (by kernel_rfl)
  exact ⟨_,by simpa using World.var?_cell yy7 hv 0,.inr ⟨_,_,rfl⟩⟩
 ·obtain ⟨a,s,hv,-,-,-⟩:=laid_sentinel h4 yy8 yuN Tryz.underlying125 ysT Tryz.underlying252 Tryz.underlying254 rfl rfl Tryz.underlying9 (by kernel_rfl) (by kernel_rfl)
  exact ⟨_,by simpa using World.var?_cell yy8 hv 0,.inr ⟨_,_,rfl⟩⟩
theorem yuO {W:World} (h:laidMetH Tryz.prog Rows.codecValidRow.laid W):Env W:=by
 rw [MakeChecks.laidMetH_plain _ _ _ (by kernel_rfl)] at h
 exact ywY h
theorem ywZ:laidOutB Tryz.prog=true:=by kernel_rfl
theorem yph:Tryz.prog.readableRec 38=true:=by kernel_rfl
theorem yrp:38<Tryz.prog.types.size:=of_decide_eq_true (by kernel_rfl)
section
variable {H : Type} {enc : TypeId × Value → H} {w : World} {base b0 : Nat} {spare : Nat → Bool} {yn2 : Bool} {r : Reach} {v : Value} {d : DataW H} {p : List MemPlace}
end
theorem ysU:Tryz.prog.cellsOf 9=1:=by kernel_rfl
theorem yp6 {w:World} {a:Addr} {x:Value} (h:w.cell? a=some x):∃ b off,a=⟨b,off,none⟩∧b<w.heap.size:=by
 have hs:=World.cell?_spot h
 obtain ⟨b,off,sp⟩:=a
 simp only at hs
 subst hs
 refine ⟨b,off,rfl,Classical.byContradiction fun hx=>?_⟩
 simp [World.cell?,hx] at h
section
open Go.Deep
variable {H : Type} {enc : TypeId × Value → H} {w : World} {base b0 : Nat} {spare : Nat → Bool} {yn2 : Bool} {v : Value} {y : DataW H × List MemPlace} {n : Nat} {r : Reach} {d : DataW H} {p : List MemPlace}
theorem yw0 (h:DataW.trod enc Tryz.prog w base spare yn2 n 30 [v]=some y):∃ (q:Oa) (c:Nat) (l:List Lb),v=.slice q l.length c∧Ss w q l:=by
 rcases open_strings Tryz.underlying30 Tryz.underlying9 ysU h with ⟨e,-⟩|⟨a,len,cap,ss,e,hb,hl,hm,hlen,-,hc,-⟩
 ·simp at e
  exact ⟨none,0,[],e,.inl rfl⟩
 ·simp at e
  have hz:len≤ss.length:=by rw [hlen];split<;>omega
  have hll:((ss.take len).map (·.data.toList)).length=len:=by simp [hz]
  refine ⟨some a,cap,(ss.take len).map (·.data.toList),by rw [hll];exact e,?_⟩
  by_cases h0:len=0
  ·exact .inl (by rw [hll];exact h0)
  ·have h1:=hc 0 (by omega)
   rw [Addr.add_zero'] at h1
   obtain ⟨b,off,rfl,hlt⟩:=yp6 h1
   refine .inr ⟨b,off,rfl,hlt,fun j hj=>?_⟩
   rw [hll] at hj
   have h2:=hc j (by omega)
   rw [Addr.add_lit] at h2
   have hj2:j<ss.length:=by omega
   rw [h2]
   simp [List.getD_eq_getElem?_getD,hj,hj2]
end
section
open Go.Deep
variable {H : Type} {enc : TypeId × Value → H} {w : World} {base b0 : Nat} {spare : Nat → Bool} {yn2 : Bool} {v : Value} {y : DataW H × List MemPlace} {n : Nat} {r : Reach} {d : DataW H} {p : List MemPlace}
theorem yp7:Tryz.prog.cellsOf 3=1:=by kernel_rfl
theorem yuP:Tryz.prog.cellsOf 45=3:=by kernel_rfl
theorem yrq (h:DataW.trod enc Tryz.prog w base spare yn2 n 22 [v]=some y):∃ (q:Oa) (c:Nat) (l:List Sg),v=.slice q l.length c∧RdG w q l:=by
 rcases open_slice Tryz.underlying22 h with ⟨e,-⟩|⟨a,len,cap,m,n2,D,Pl,e,hb,hl,hm,hmm,-,hi⟩
 ·simp at e
  exact ⟨none,0,[],e,.inl rfl⟩
 ·simp at e
  have hlm:len≤m:=by rw [hmm];split<;>omega
  rw [yuP] at hi
  have each:∀ i,i<len→∃ z:Sg,w.cell? (a.add (i*3))=some (.int .i64 z.1)∧w.cell? (a.add (i*3+1))=some (.int .i64 z.2.1)∧w.cell? (a.add (i*3+2))=some (.string ⟨z.2.2.toArray⟩):=fun i hil=>by
   obtain ⟨cs,hcs,ht⟩:=hi i (by omega)
   obtain ⟨-,hlen,hat⟩:=World.cells?_some hcs
   obtain ⟨y0,y1,y2,n3,-,-,g0,g1,g2⟩:=trod_struct3 Tryz.underlying45 ht
   obtain ⟨z0,e0,-,-⟩:=DataW.trod_int Tryz.underlying3 g0
   obtain ⟨z1,e1,-,-⟩:=DataW.trod_int Tryz.underlying3 g1
   obtain ⟨s2,e2,-⟩:=DataW.trod_string Tryz.underlying9 g2
   have c0:=hat 0 (by omega)
   have c1:=hat 1 (by omega)
   have c2:=hat 2 (by omega)
   match cs,hlen with
   | [x0,x1,x2],_ =>
    simp [yp7,ysU] at e0 e1 e2
    subst e0 e1 e2
    refine ⟨(z0,z1,s2.data.toList),?_,?_,?_⟩
    ·simpa [Addr.add] using c0
    ·rw [← Go.Deep.add_add];exact c1
    ·rw [← Go.Deep.add_add];simpa using c2
  refine ⟨some a,cap,(List.range len).map (fun i=>if hil:i<len then (each i hil).choose else (0,0,[])),by simpa using e,?_⟩
  by_cases h0:len=0
  ·exact .inl (by simpa using h0)
  ·obtain ⟨zz,h1,-⟩:=each 0 (by omega)
   rw [Nat.zero_mul,Addr.add_zero'] at h1
   obtain ⟨b,off,rfl,hlt⟩:=yp6 h1
   refine .inr ⟨b,off,rfl,hlt,fun j hj=>?_⟩
   have hjl:j<len:=by simpa using hj
   have h2:=(each j hjl).choose_spec
   have e3:((List.range len).map (fun i=>if hil:i<len then (each i hil).choose else (0,0,[]))).getD j (0,0,[])=(each j hjl).choose:=by
    rw [List.getD_eq_getElem?_getD,List.getElem?_map,List.getElem?_range hjl]
    show (if hil:j<len then (each j hil).choose else (0,0,[]))=_
    rw [dif_pos hjl]
   rw [e3]
   revert h2
   generalize (each j hjl).choose=zc
   intro h2
   rw [Addr.add_lit,Addr.add_lit,Addr.add_lit] at h2
   simpa [Nat.add_assoc] using h2
end
end
end Go.Proofs.YtgepehlpjpccaaaGreatDoor
