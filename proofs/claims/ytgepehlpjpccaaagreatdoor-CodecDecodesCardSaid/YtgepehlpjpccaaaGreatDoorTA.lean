/- Contracts. -/
import Derived.Test.YtgepehlpjpccaaaGreatDoorPart07
import Derived.Lib.AppendIntMem
import Derived.Lib.ItoaLen
import Derived.Lib.OwnBridge
set_option maxHeartbeats 3200000
set_option maxRecDepth 100000
namespace Go.Proofs.YtgepehlpjpccaaaGreatDoor
section
open Go.RowKit Big
theorem size_toArray (l:Lb):(⟨l.toArray⟩:ByteArray).size=l.length:=by
 show l.toArray.size=_;simp
theorem yaS (a:ByteArray) (f:Bool) (ha:a.size≤100000) (h:yZ a.data.toList=f):yaE a f:=by
 intro W
 have:=yiB a W (by omega)
 rw [h] at this
 exact yA this
theorem yud (r:ByteArray) (c:UInt8) (a b:Lb) (f:Bool) (hr:r.size≤100000) (h:Lib.cut r.data.toList [c]=(a,b,f)):yaD r ⟨a.toArray⟩ ⟨b.toArray⟩ c f:=by
 intro W
 have:=ytw r c W (by omega)
 rw [h] at this
 exact yA (this.mono fun e w' hh=>⟨hh.1,hh.2.elim fun n hn=>hn ▸ yG _ _ _⟩)
theorem yue (a:ByteArray) (ha:a.size≤100000) (h:yZ a.data.toList=true):yly a (zC a.data.toList):=fun W =>
 yA (ybQ a W ha (jI h))
theorem yrH (s:ByteArray) (w:World) (hs:s.size≤90000):Calls Tryz.prog 175 #[.string s] w (jQ (GP s.data.toList) w):=by
 have hl:s.data.toList.length≤90000:=by simpa using hs
 have htl:=yfM s.data.toList
 unfold GP
 generalize GK:Lib.hasPrefix s.data.toList [45]=neg
 generalize hr:Lib.trimPrefix s.data.toList [45]=l at htl ⊢
 have hp:yc2 s ⟨l.toArray⟩ neg:=by
  intro W
  have:=Go.Proofs.Tryz.strings_CutPrefix s ⟨#[45]⟩ W
  have e1:Lib.trimPrefix s.data.toList (⟨#[45]⟩:ByteArray).data.toList=l:=hr
  have e2:Lib.hasPrefix s.data.toList (⟨#[45]⟩:ByteArray).data.toList=neg:=GK
  rw [e1,e2] at this
  exact yA this
 have hls:(⟨l.toArray⟩:ByteArray).size≤100000:=by rw [size_toArray];omega
 unfold uQ
 obtain ⟨k1,k2,k3⟩:=ycW l 46
 generalize hc:Lib.cut l [46]=q at k1 k2 k3 ⊢
 obtain ⟨a,b,f⟩:=q
 have hcut:=yud ⟨l.toArray⟩ 46 a b f hls (by simpa using hc)
 have sa:(⟨a.toArray⟩:ByteArray).size≤100000:=by rw [size_toArray];simp only at k1;omega
 have sb:(⟨b.toArray⟩:ByteArray).size≤100000:=by rw [size_toArray];simp only at k2;omega
 cases f with
 | true =>
  simp only [if_true]
  by_cases ha:yZ a=true
  ·by_cases hb:yZ b=true
   ·rw [ha,hb]
    simp only [Bool.and_true,if_true,Option.map_some]
    have hab:((⟨a.toArray⟩:ByteArray)++⟨b.toArray⟩).data.toList=a++b:=by simp
    have jT:((⟨#[49]⟩:ByteArray)++⟨(Lib.repeatL [48] b.length).toArray⟩).data.toList=49::Lib.repeatL [48] b.length:=by simp
    have hrl:(Lib.repeatL [48] b.length).length≤90000:=by rw [Lib.repeatL_length];simp only at k2;simp;omega
    refine ykC s ⟨l.toArray⟩ ⟨a.toArray⟩ ⟨b.toArray⟩ neg _ _ ⟨(Lib.repeatL [48] b.length).toArray⟩ w (by rw [size_toArray];omega) ?_ hp hcut (yaS _ _ sa (by simpa using ha)) (yaS _ _ sb (by simpa using hb)) (by omega) (by omega) ?_
    ·intro W
     have:=Go.Proofs.Tryz.strings_Repeat ⟨#[48]⟩ (⟨b.toArray⟩:ByteArray).size W (by omega) (by have:(⟨#[48]⟩:ByteArray).size=1:=rfl;rw [this];omega)
     rw [size_toArray] at this ⊢
     exact yA this
    ·intro W
     have h1:(((⟨a.toArray⟩:ByteArray)++⟨b.toArray⟩).data.toList.all yL)=true:=by rw [hab,List.all_append,jI ha,jI hb];rfl
     have h2:=ycq neg (⟨a.toArray⟩++⟨b.toArray⟩) (⟨#[49]⟩++⟨(Lib.repeatL [48] b.length).toArray⟩) W ?_ ?_ h1 (by rw [jT];exact (yhf _).2)
     ·rw [hab,jT,(yhf _).1] at h2
      exact yA h2
     ·rw [ByteArray.size_append,size_toArray,size_toArray];simp only at k3;omega
     ·rw [ByteArray.size_append,size_toArray,size_toArray]
      have:([49]:Lb).length=1:=rfl
      omega
   ·have hb':yZ b=false:=by simpa using hb
    rw [ha,hb']
    exact yg1 s ⟨l.toArray⟩ ⟨a.toArray⟩ ⟨b.toArray⟩ neg w hp hcut (yaS _ _ sa (by simpa using ha)) (yaS _ _ sb (by simpa using hb'))
  ·have ha':yZ a=false:=by simpa using ha
   rw [ha']
   exact yg0 s ⟨l.toArray⟩ ⟨a.toArray⟩ ⟨b.toArray⟩ neg w hp hcut (yaS _ _ sa (by simpa using ha'))
 | false =>
  simp only [Bool.false_eq_true,if_false]
  obtain ⟨m1,m2,m3⟩:=ycW l 47
  generalize hd:Lib.cut l [47]=q at m1 m2 m3 ⊢
  obtain ⟨c,d,g⟩:=q
  have ygK:=yud ⟨l.toArray⟩ 47 c d g hls (by simpa using hd)
  have sc:(⟨c.toArray⟩:ByteArray).size≤100000:=by rw [size_toArray];simp only at m1;omega
  have sd:(⟨d.toArray⟩:ByteArray).size≤100000:=by rw [size_toArray];simp only at m2;omega
  have kc:(⟨c.toArray⟩:ByteArray).data.toList=c:=by simp
  have kd:(⟨d.toArray⟩:ByteArray).data.toList=d:=by simp
  cases g with
  | true =>
   simp only [if_true]
   by_cases ha:yZ c=true
   ·by_cases hb:yZ d=true
    ·rw [ha,hb]
     have hn:=yue ⟨d.toArray⟩ sd (by rw [kd];exact hb)
     rw [kd] at hn
     by_cases h0:zC d=0
     ·rw [h0] at hn ⊢
      exact yfi s ⟨l.toArray⟩ ⟨a.toArray⟩ ⟨b.toArray⟩ ⟨c.toArray⟩ ⟨d.toArray⟩ neg w hp hcut ygK (yaS _ _ sc (by rw [kc];exact ha)) (yaS _ _ sd (by rw [kd];exact hb)) hn
     ·have h0':(zC d==0)=false:=by rw [beq_eq_false_iff_ne];exact h0
      rw [h0']
      refine yg2 s ⟨l.toArray⟩ ⟨a.toArray⟩ ⟨b.toArray⟩ ⟨c.toArray⟩ ⟨d.toArray⟩ neg _ _ w hp hcut ygK (yaS _ _ sc (by rw [kc];exact ha)) (yaS _ _ sd (by rw [kd];exact hb)) hn (Nat.pos_of_ne_zero h0) ?_
      intro W
      have h2:=ycq neg ⟨c.toArray⟩ ⟨d.toArray⟩ W sc sd (by rw [kc];exact jI ha) (by rw [kd];exact jI hb)
      rw [kc,kd] at h2
      exact yA h2
    ·have hb':yZ d=false:=by simpa using hb
     rw [ha,hb']
     exact yfh s ⟨l.toArray⟩ ⟨a.toArray⟩ ⟨b.toArray⟩ ⟨c.toArray⟩ ⟨d.toArray⟩ neg w hp hcut ygK (yaS _ _ sc (by rw [kc];exact ha)) (yaS _ _ sd (by rw [kd];exact hb'))
   ·have ha':yZ c=false:=by simpa using ha
    rw [ha']
    exact yfg s ⟨l.toArray⟩ ⟨a.toArray⟩ ⟨b.toArray⟩ ⟨c.toArray⟩ ⟨d.toArray⟩ neg w hp hcut ygK (yaS _ _ sc (by rw [kc];exact ha'))
  | false =>
   have hcl:c=l:=by
    unfold Lib.cut at hd
    split at hd
    ·simp at hd
    ·simp only [Prod.mk.injEq] at hd;exact hd.1.symm
   subst hcl
   simp only [Bool.false_eq_true,if_false]
   by_cases ha:yZ c=true
   ·rw [ha]
    have k1':zC (⟨#[49]⟩:ByteArray).data.toList=1:=rfl
    have hn:=yue ⟨#[49]⟩ (by show 1≤100000;omega) (by decide)
    rw [k1'] at hn
    refine yg3 s ⟨c.toArray⟩ ⟨a.toArray⟩ ⟨b.toArray⟩ ⟨c.toArray⟩ ⟨d.toArray⟩ neg _ _ w hp hcut ygK (yaS _ _ sc (by rw [kc];exact ha)) (yaS _ _ (by show 1≤100000;omega) (by decide)) hn (by omega) ?_
    intro W
    have h2:=ycq neg ⟨c.toArray⟩ ⟨#[49]⟩ W sc (by show 1≤100000;omega) (by rw [kc];exact jI ha) (by decide)
    rw [kc,k1'] at h2
    exact yA h2
   ·have ha':yZ c=false:=by simpa using ha
    rw [ha']
    exact ygn s ⟨c.toArray⟩ ⟨a.toArray⟩ ⟨b.toArray⟩ ⟨c.toArray⟩ ⟨d.toArray⟩ neg w hp hcut ygK (yaS _ _ sc (by rw [kc];exact ha'))
end
section
open Go.RowKit Go.Sort Go.Lib Big
def Tab (w : World) : Prop := Lib.TabIs Tryz.prog w "internal/strconv.uint64pow10" .u64 Lib.pow10Tab
theorem ymE (u:Nat) (hu64:u<18446744073709551616) (w:World) (htab:Tab w):Calls Tryz.prog 261 #[.int .u64 u,.int .i64 10] w (Rp (.string ⟨(Lib.decDigits u).toArray⟩) w):=by
 by_cases hs:u<100
 ·have hs':(u:Int)<100:=by omega
  have hu0:IntKind.i64.wrap (u:Int)=u:=by rw [IntKind.wrap_i64];omega
  have hsm:=yA (fun W=>Go.Proofs.Tryz.internal_strconv_small u hs W)
  clear hs hu64
  go_in
  go_wp2_with fail
  refine (hsm.out _).mono ?_
  rintro e w' ⟨rfl,rfl⟩
  go_wp2
  go_ret
  exact ⟨rfl,Below.refl _ _⟩
 ·have hs':¬ (u:Int)<100:=by omega
  have hs2:(100:Int)≤u:=by omega
  have hnd20:=nDigits_le20 u hu64
  have hndh:Lib.nDigits u≤24:=by omega
  have hal:Tryz.prog.arrayLen 247=24:=rfl
  have hsl:∀ W,Hid ((Instr.sliceAt 247 (.pointer (some ⟨w.heap.size,0,none⟩)) none (some (.int .i64 (Lib.nDigits u:Int))) none).run Tryz.prog W=.ok (.slice (some ⟨w.heap.size,0,none⟩) (Lib.nDigits u) 24) W):=fun W=>yA (by
   rw [run_sliceAt_array_h W 247 ⟨w.heap.size,0,none⟩ rfl .i64 (Lib.nDigits u:Int) (by omega) (by rw [hal];omega)]
   go_simp)
  have hH0:=Lib.holds_zero0 w 247 (Lib.nDigits u) hndh
  have ypG:=Go.Proofs.Tryz.internal_strconv_formatBase10 w.heap.size 0 24 u (Array.replicate (Lib.nDigits u) 0) (w.alloc (.cells Lib.zeros24 247)) hH0 (by rw [Array.size_replicate];exact Lib.lt_pow_nDigits u) hu64 (by rw [Array.size_replicate];omega)
  rw [Array.size_replicate] at ypG
  have HH0:=yA hH0
  have Hfmt:=yA ypG
  have ypp:=yA (Go.Proofs.Tryz.internal_strconv_numDigits u (by omega) hu64 _ (Lib.tabIs_alloc htab (.cells Lib.zeros24 247)))
  clear hH0 hal ypG htab
  go_in
  go_wp2_with fail
  refine ypp.out.mono ?_
  rintro e w2 ⟨rfl,rfl⟩
  have hsl1:=(hsl (w.alloc (.cells Lib.zeros24 247))).out
  go_wp2_with fail
  refine Hfmt.out.mono ?_
  rintro e w3 ⟨rfl,k,v',dk,rfl,hF⟩
  have hcv:Hid ((convert 39 9 (.slice (some ⟨w.heap.size,0,none⟩) (Lib.nDigits u) 24)).run Tryz.prog ((putRow (fun (b:UInt8)=>Value.int .u8 (b.toNat:Int)) (w.alloc (.cells Lib.zeros24 247)) w.heap.size 0 dk).drewN k)=.ok (.string ⟨(Lib.decDigits u).toArray⟩) ((putRow (fun (b:UInt8)=>Value.int .u8 (b.toNat:Int)) (w.alloc (.cells Lib.zeros24 247)) w.heap.size 0 dk).drewN k)):=yA (by
   have h:=run_convert_bytes_back (P:=Tryz.prog) ((putRow (fun (b:UInt8)=>Value.int .u8 (b.toNat:Int)) (w.alloc (.cells Lib.zeros24 247)) w.heap.size 0 dk).drewN k) 39 9 5 ⟨w.heap.size,0,none⟩ 24 (Lib.decDigits u) rfl rfl rfl (fun j hj=>by
    rw [Lib.row_is_numeral hF j hj,Lib.add_plain,World.cell?_drewN]
    exact cell?_putRow (fun (b:UInt8)=>Value.int .u8 (b.toNat:Int)) _ w.heap.size 0 _ dk HH0.out (by rw [hF.size,Array.size_replicate]) j (by rw [hF.size];rw [Lib.decDigits_length] at hj;exact hj))
   rw [Lib.decDigits_length] at h
   exact h)
  have hbl:Hid (Be w ((putRow (fun (b:UInt8)=>Value.int .u8 (b.toNat:Int)) (w.alloc (.cells Lib.zeros24 247)) w.heap.size 0 dk).drewN k)):=yA (by
   obtain ⟨os,eo⟩:=Lib.fin_at w (.cells Lib.zeros24 247) dk k 0
   rw [eo];exact Lib.below_grow _ _ nl _ _)
  clear hsl1
  generalize (putRow (fun (b:UInt8)=>Value.int .u8 (b.toNat:Int)) (w.alloc (.cells Lib.zeros24 247)) w.heap.size 0 dk).drewN k=w3 at hcv hbl ⊢
  have hsl3:=(hsl w3).out
  have hcv3:=hcv.out
  go_wp2
  go_ret
  exact ⟨rfl,hbl.out⟩
theorem ykU (u:Nat) (hu64:u<18446744073709551616) (w:World) (htab:Tab w):Calls Tryz.prog 244 #[.int .u64 u,.int .i64 10] w (Rp (.string ⟨(Lib.decDigits u).toArray⟩) w):=by
 have h:=yA (ymE u hu64 w htab)
 clear htab hu64
 go_in
 go_wp2_with fail
 refine h.out.mono ?_
 rintro e w2 ⟨rfl,hb⟩
 go_wp2
 go_ret
 exact ⟨rfl,hb⟩
theorem Tab.below {w w':World} (h:Tab w) (hb:Be w w'):Tab w':=(Lib.tabBelow_of_tabIs h) w' hb
end
section
open Go.RowKit Go.Lib Big
def GH:Nat→Nat→Lb
 | 0,_=>[]
 | k+1,r=>GH k (r/10)++[UInt8.ofNat (48+r%10)]
theorem ydx {u:Nat} (h:¬ u<10):decDigits u=decDigits (u/10)++[UInt8.ofNat (48+u%10)]:=by rw [decDigits,dif_neg h]
theorem yhs (k:Nat):∀ q r,0<q→r<10^k→decDigits (q*10^k+r)=decDigits q++GH k r:=by
 induction k with
 | zero =>
      intro q r _ hr;have:r=0:=by rw [Nat.pow_zero] at hr;omega
      subst this;simp [GH]
 | succ k ih =>
  intro q r hq hr
  have hp:0<10^k:=Nat.pow_pos (by omega)
  have e:q*10^(k+1)=10*(q*10^k):=by rw [Nat.pow_succ,← Nat.mul_assoc,Nat.mul_comm]
  have h1:1≤q*10^k:=Nat.mul_pos hq hp
  rw [Nat.pow_succ] at hr
  have h2:(q*10^(k+1)+r)/10=q*10^k+r/10:=by omega
  have h3:(q*10^(k+1)+r)%10=r%10:=by omega
  rw [ydx (by omega),h2,h3,ih q (r/10) hq (by omega),List.append_assoc]
  rfl
theorem yrI (k:Nat):GH k 0=List.replicate k 48:=by
 induction k with
 | zero=>rfl
 | succ k ih=>show GH k (0/10)++_=_;rw [Nat.zero_div,ih,List.replicate_succ'];rfl
theorem yvg (k:Nat):∀ r,nDigits r≤k→GH k r=List.replicate (k-nDigits r) 48++decDigits r:=by
 induction k with
 | zero=>intro r h;have:=nDigits_pos r;omega
 | succ k ih =>
  intro r h
  show GH k (r/10)++_=_
  by_cases h1:r<10
  ·rw [nDigits_small h1,decDigits_one h1,Nat.div_eq_of_lt h1,yrI,Nat.mod_eq_of_lt h1];rfl
  ·rw [nDigits_big h1] at h ⊢
   rw [ih (r/10) (by omega),ydx h1,List.append_assoc]
   have:k-nDigits (r/10)=k+1-(nDigits (r/10)+1):=by omega
   rw [this]
theorem ydJ (k r:Nat) (hk:1≤k) (h:r<10^k):nDigits r≤k:=by
 induction k generalizing r with
 | zero=>omega
 | succ k ih =>
  by_cases h1:r<10
  ·rw [nDigits_small h1];omega
  ·rw [nDigits_big h1]
   by_cases hk0:k=0
   ·subst hk0;rw [Nat.pow_succ,Nat.pow_zero] at h;omega
   ·rw [Nat.pow_succ] at h
    have:=ih (r/10) (by omega) (by omega)
    omega
theorem ymF (n:Nat):repeatL [48] n=List.replicate n 48:=by
 induction n with
 | zero=>rfl
 | succ n ih=>show [48]++repeatL [48] n=_;rw [ih];rfl
theorem ytG (q r:Nat) (hq:0<q) (hr:r<10^19):decDigits (q*10^19+r)=decDigits q++(repeatL [48] (19-nDigits r)++decDigits r):=by
 rw [yhs 19 q r hq hr,yvg 19 r (ydJ 19 r (by omega) hr),ymF]
theorem yrJ:∀ xs:List Lb,Lib.join xs []=xs.flatten:=by
 intro xs
 induction xs with
 | nil=>rfl
 | cons x xs ih =>
  cases xs with
  | nil=>simp [Lib.join]
  | cons y ys=>simp only [Lib.join] at ih ⊢;simp [ih]
end
section
open Go.RowKit Big
theorem ykV (p:Oa) (n c:Nat) (l:List Nat) (w0 w:World) (hn:n≤maxLen) (hnc:n≤c) (hl:Rd w p n l) (hd:yO yB l) (hb:Be w0 w) :
  Calls Tryz.prog 136 #[.slice p n c] w fun e w'=>∃ k,e=.returned (.slice p k c)∧yI w' (.slice p k c) (yC yB l)∧Be w0 w'∧w'=w :=
 (yab p n c l w hn hnc hl).mono fun e w' h=>by
  obtain ⟨v,hv,h2,h3⟩:=yjJ hnc hl hd hb h
  obtain ⟨k,-,he,hw,-⟩:=h
  rw [he] at hv
  cases hv
  exact ⟨k,he,h2,h3,hw.symm⟩
def ytH (x d n:Nat) (w:World) (e:Ending) (w':World):Prop :=
 ∃ k,e=.returned (.tuple #[.slice (some ⟨w.heap.size,0,none⟩) k n,.int .u64 ((x%d:Nat):Int)])∧yI w' (.slice (some ⟨w.heap.size,0,none⟩) k n) (x/d)∧Be w w'∧∃ L,zV w' w.heap.size 86 L
theorem yei (p:Oa) (n c:Nat) (x:List Nat) (d:Nat) (w:World) (hn0:n≤yK) (hx:Rd w p n x) (dx:yO yB x) (hd:0<d) (hdB:d<yB) :
  Calls Tryz.prog 183 #[.slice p n c,.int .u64 d] w (ytH (yC yB x) d n w):=by
 obtain ⟨i0,hi,hz0,hz1,hz2⟩:=info_parts vP
 have hn:(n:Int)≤4294967296:=by unfold yK at hn0;omega
 go_in
 go_wp2_with (at_make;refine wpList_make_full _ rfl _ _ 96 rfl w.heap.size 86 i0 (.int .u64 0) 1 Tryz.underlying96 hi hz0 hz1 _ _ _ _ n rfl rfl (by omega) (by omega) ?b2 ?b3 nl ?_)
 case b2=>rw [hz2];unfold yK at hn0;omega
 case b3=>unfold maxLen;unfold yK at hn0;omega
 intro w1 yP zB
 have hr1:zV w1 w.heap.size 86 (List.replicate n 0):=jN yP
 have hb1:Be w w1:=bR.grown zB nl (fun k h=>by cases h)
 have hx1:=hx.below hb1
 clear yP zB
 have hlx:Hid (x.length=n):=yA hx.len
 go_wp2
 go_loopw [7,8] (fun rv i wr=>∃ (k:Nat) (z:Int) (r:Nat) (L:List Nat),k≤n∧i=.int .i64 z∧z+1=k∧rv=.int .u64 r∧Hid (r<d∧L.length=n∧yO yB (L.drop k)∧yC yB (L.drop k)*d+r=yC yB (x.drop k))∧zV wr w.heap.size 86 L∧Be w wr) (fun _ i _=>(intOf i+1).toNat)
 case atStart=>exact ⟨n,(n:Int)-1,0,_,Nat.le_refl _,rfl,by omega,rfl,yA ⟨hd,by simp,by rw [List.drop_of_length_le (by simp)];exact yO.nil _,by rw [List.drop_of_length_le (by simp),List.drop_of_length_le (by rw [hlx.out];omega)];simp [yC]⟩,hr1,hb1⟩
 case round =>
  obtain ⟨k,z,r,L,hk,rfl,hz,rfl,yJ,hr,hb⟩:=hrel
  by_cases h0:k=0
  ·obtain rfl:z=-1:=by omega
   subst h0
   have yF:Hid (yC yB L=yC yB x/d∧r=yC yB x%d∧yO yB L∧L.length=n):=by
    obtain ⟨g1,g2,g3,g4⟩:=yJ.out
    rw [List.drop_zero] at g3 g4
    rw [List.drop_zero] at g4
    refine ⟨?_,?_,g3,g2⟩
    ·rw [← g4,Nat.mul_comm,Nat.mul_add_div hd,Nat.div_eq_of_lt g1];rfl
    ·rw [← g4,Nat.mul_comm,Nat.mul_add_mod,Nat.mod_eq_of_lt g1]
   have ht:=ykV (some ⟨w.heap.size,0,none⟩) n n L w wr (by unfold maxLen;omega) nl (hr.rd0 n yF.out.2.2.2.symm) yF.out.2.2.1 hb
   have Ht:=yA ht
   clear ht hz
   go_wp2_with fail
   refine Ht.out.mono ?_
   rintro e w4 ⟨kq,rfl,hv,hb4,hw4⟩
   subst hw4
   have hr4:=yA hr
   rw [yF.out.1] at hv
   rw [yF.out.2.1]
   go_wp2
   go_ret2
   exact ⟨kq,rfl,hv,hb4,_,hr4.out⟩
  ·obtain ⟨j,rfl⟩:∃ j:Nat,z=j:=⟨z.toNat,by omega⟩
   obtain rfl:k=j+1:=by omega
   clear hz h0
   obtain ⟨b1,o1,a,rfl,hb1',hc1,ha⟩:=hx.at (k:=j) (by omega)
   have hc:wr.cell? ⟨b1,o1+j,none⟩=some (.int .u64 (a:Int)):=(hb.cell (p:=⟨b1,o1+j,none⟩) hb1').trans hc1
   have hf:=hr.free j
   have zS:=hr.cell j (by rw [yJ.out.2.1];omega)
   have da:a<yB:=by rw [← ha.out];exact dx.getD yU j
   have yco:=yem r a d wr yJ.out.1 hdB da
   have Hdiv:=yA yco
   have hj:(j:Int)<n:=by omega
   clear yco hc1
   go_wp2_with fail
   refine Hdiv.out.mono ?_
   rintro e w3 ⟨q,r',rfl,⟨t,rfl⟩,he,hlt⟩
   have hq:q<yB:=yqf he yJ.out.1 da
   have hinv':Hid (r'<d∧(L.set j q).length=n∧yO yB ((L.set j q).drop j)∧yC yB ((L.set j q).drop j)*d+r'=yC yB (x.drop j)):=by
    obtain ⟨g1,g2,g3,g4⟩:=yJ.out
    have hjl:j<(L.set j q).length:=by rw [List.length_set];omega
    have hd1:(L.set j q).drop (j+1)=L.drop (j+1):=by rw [List.drop_set_of_lt (by omega)]
    have hgj:(L.set j q).getD j 0=q:=by rw [List.getD_eq_getElem?_getD,List.getElem?_set_self (by omega)];rfl
    refine ⟨hlt,by rw [List.length_set];exact g2,?_,?_⟩
    ·rw [List.drop_eq_getElem_cons hjl,hd1]
     have:(L.set j q)[j]=q:=by simp
     rw [this]
     exact (yO.one hq).append g3
    ·rw [jZ _ j hjl,hd1,hgj,jZ x j (by rw [hlx.out];omega),ha.out]
     exact yhb he g4
   have hr3:zV (wr.drewN t) w.heap.size 86 L:=hr
   have hb3:Be w (wr.drewN t):=hb.trans (yG _ _ _)
   clear he hlt
   go_wp2
   go_roundw
   case rel=>exact ⟨j,(j:Int)-1,r',_,by omega,rfl,by omega,rfl,hinv',hr3.set _ _,hb3.setCell nl _⟩
   case measure=>simp [intOf]
end
section
open Go.RowKit Go.Lib Big
theorem ywh:(Tryz.prog.info? 9).map (fun i=>(i.zero,i.size,i.bytes))=some (some (.string ByteArray.empty),1,16):=by kernel_rfl
structure TextAt (w wr:World) (x K:Nat) (vx pv:Value) (X:Nat) (xs:List ByteArray):Prop where
 nat:yI wr vx X
 own:wr.ownsRow w.heap.size 9 1 pv xs.length (xs.map Value.string)
 below:Be w wr
 apart:∀ b o n c,vx=.slice (some ⟨b,o,none⟩) n c→pv.ownBlock≠some b
 text:(if X=0 then [] else decDigits X)++(xs.reverse.map (·.data.toList)).flatten=decDigits x
 count:xs.length≤2*K+1
 pow:X≠0→10^(19*xs.length)*X≤x
 le:X≤x
theorem yoF (B:Nat) (xs:List ByteArray) (pv:Value) (wr:World) (own:wr.ownsRow B 9 1 pv xs.length (xs.map Value.string)) (hne:xs≠[]) (hlen:xs.length≤100000000) :
  ∃ g cap,pv=.slice (some ⟨g,0,none⟩) xs.length cap∧xs.length≤cap∧Calls Tryz.prog 245 #[pv] wr fun e w'=>e=.returned (.tuple #[])∧Below B wr w'∧g<w'.heap.size∧∀ (j:Nat) y,xs.reverse[j]?=some y→w'.cell? ⟨g,0+j,none⟩=some (.string y):=by
 rw [← map_encStr] at own
 have hpv:pv≠.slice none 0 0:=by
  rintro rfl
  rcases own.2 with ⟨-,h⟩|⟨g,cap,cur,h,-⟩
  ·exact hne (List.eq_nil_of_length_eq_zero h)
  ·cases h
 obtain ⟨g,cap,rfl,hB,hg,hc,-,hl,hH⟩:=holds_of_ownsRow own hpv
 refine ⟨g,cap,rfl,hc,?_⟩
 have h:=Go.Proofs.Tryz.slices_Reverse_string g 0 cap (xs.map (·.data.toList)) wr hH (by rw [hl];omega)
 rw [hl] at h
 refine h.mono ?_
 rintro e w' ⟨rfl,n,rfl⟩
 have hb:Below B wr (Sort.putRow Go.Proofs.encStr (Sort.ahead wr n) g 0 (xs.map (·.data.toList)).reverse.toArray):=below_putRow bR hB
 refine ⟨rfl,hb,Nat.lt_of_lt_of_le hg hb.size,?_⟩
 intro j y hy
 have hH2:Go.Sort.Holds Go.Proofs.encStr (Sort.ahead wr n) g 0 (xs.map (·.data.toList)).toArray:=fun j hj=>hH j hj
 have hh:=Go.Sort.holds_putRow Go.Proofs.encStr (Sort.ahead wr n) g 0 (xs.map (·.data.toList)).toArray (xs.map (·.data.toList)).reverse.toArray hH2 (by simp)
 have hj:j<xs.reverse.length:=by
  rcases Nat.lt_or_ge j xs.reverse.length with h1|h1
  ·exact h1
  ·rw [List.getElem?_eq_none h1] at hy;cases hy
 have:=(hh j (by simpa using hj)).1
 rw [this,getElem!_pos _ j (by simpa using hj)]
 have hy2:xs.reverse[j]=y:=by rw [List.getElem?_eq_getElem hj] at hy;exact Option.some.inj hy
 have e1:(xs.map (·.data.toList)).reverse=xs.reverse.map (·.data.toList):=by rw [List.map_reverse]
 simp only [e1,List.getElem_toArray,List.getElem_map,hy2]
def yuf:Value→Nat | .slice _ n _=>n|_=>0
theorem TextAt.len {w wr:World} {x K X:Nat} {vx pv:Value} {xs:List ByteArray} (h:TextAt w wr x K vx pv X xs):yuf pv=xs.length:=by
 rcases h.own.2 with ⟨h1,h2⟩|⟨g,cap,cur,h1,-⟩
 ·rw [h1,h2];rfl
 ·rw [h1];rfl
theorem TextAt.ne {w wr:World} {x K X:Nat} {vx pv:Value} {xs:List ByteArray} (h:TextAt w wr x K vx pv X xs) (_hx:x≠0) (hX:X=0):xs≠[]:=by
 rintro rfl
 have:=h.text
 rw [if_pos hX] at this
 have h2:=congrArg List.length this
 rw [decDigits_length] at h2
 have:=nDigits_pos x
 simp at h2;omega
theorem yj1 {x K k X:Nat} (hx:x<yB^K) (hX:X≠0) (h:10^(19*k)*X≤x):k≤2*K:=by
 apply Nat.le_of_not_lt
 intro hk
 have h1:10^(20*K)≤10^(19*k):=Nat.pow_le_pow_right (by omega) (by omega)
 have h2:yB^K≤(10^20)^K:=Nat.pow_le_pow_left (by rw [yS];decide) K
 rw [← Nat.pow_mul] at h2
 have h3:10^(19*k)*1≤10^(19*k)*X:=Nat.mul_le_mul_left _ (by omega)
 omega
theorem yoG {x K:Nat} (hx:x<yB^K) (h0:x≠0):nDigits x≤20*K:=by
 have h2:yB^K≤(10^20)^K:=Nat.pow_le_pow_left (by rw [yS];decide) K
 rw [← Nat.pow_mul] at h2
 have hK:K≠0:=by rintro rfl;rw [Nat.pow_zero] at hx;omega
 exact ydJ (20*K) x (by omega) (by omega)
theorem ydK {w w':World} {B e:Nat} {v:Value} {n:Nat} {xs:List Value} (h:w.ownsRow B e 1 v n xs) (hb:Be w w'):w'.ownsRow B e 1 v n xs :=
 h.kept (row:=none) ⟨hb.os,hb.tape,hb.output,hb.size,fun k hk _=>hb.block k hk⟩ (by cases v.ownBlock<;>simp)
theorem yht {w wr w3 w5:World} {x K X q r kq n2 m:Nat} {vx pv v':Value} {xs:List ByteArray} {ps:ByteArray} {o:Obj} {L:List Nat} (h:TextAt w wr x K vx pv X xs) (hX:X≠0) (hx:x<yB^K) (hb:Be wr w3) (hq:q=X/U19) (hr:r=X%U19)
  (hvq:yI w3 (.slice (some ⟨wr.heap.size,0,none⟩) kq n2) q) (uJ:zV w3 wr.heap.size 86 L) (hps:ps.data.toList=if q=0 then decDigits r else repeatL [48] (19-nDigits r)++decDigits r)
  (hm:m=xs.length+1) (yP:w5.ownsRow w.heap.size 9 1 v' m (xs.map Value.string++[.string ps])) (hg:(w3.alloc o).grownBy w5 pv.ownBlock) :
  TextAt w w5 x K (.slice (some ⟨wr.heap.size,0,none⟩) kq n2) v' q (xs++[ps]):=by
 have hpb:∀ g,pv.ownBlock=some g→w.heap.size≤g∧g<wr.heap.size:=h.own.lt
 have hlt3:wr.heap.size<w3.heap.size:=uJ.lt
 have hblk:w5.heap[wr.heap.size]?=w3.heap[wr.heap.size]?:=by
  rw [hg.block _ (by simp;omega) (fun e=>absurd (hpb _ e.symm).2 (Nat.lt_irrefl _))]
  exact Below.heap_alloc _ _ _ hlt3
 subst hm
 refine ⟨?_,?_,?_,?_,?_,?_,?_,?_⟩
 ·obtain ⟨p,n,c,l,hv,hnc,hrd,hcn,hvl⟩:=hvq
  cases hv
  refine ⟨_,_,_,l,rfl,hnc,⟨hrd.len,?_⟩,hcn,hvl⟩
  rcases hrd.cell with h0|⟨b,off,hp,hltb,hc⟩
  ·exact .inl h0
  ·cases hp
   have hs5:=hg.size
   exact .inr ⟨_,_,rfl,by simp at hs5;omega,fun j hj=>(World.cell?_of_block (w:=w3) hblk).trans (hc j hj)⟩
 ·rw [List.length_append,List.map_append];exact yP
 ·have h1:Be w w3:=tr h.below hb
  exact (h1.alloc h1.size o).grown hg (by simp;have:=h1.size;omega) (fun k hk=>(hpb k hk).1)
 ·intro b o' n c e
  cases e
  intro hv
  rcases yP.2 with ⟨h1,h2⟩|⟨g,cap,cur,h1,h2,h3,-⟩
  ·omega
  ·rw [h1] at hv
   simp only [Value.ownBlock,Option.some.injEq] at hv
   rw [hv,hblk] at h3
   have h4:w3.heap[wr.heap.size]?=_:=uJ
   rw [h4] at h3
   simp at h3
 ·have ht:=h.text
  rw [if_neg hX] at ht
  rw [List.reverse_append,List.map_append,List.flatten_append,← ht]
  simp only [List.reverse_cons,List.reverse_nil,List.nil_append,List.map_cons,List.map_nil,List.flatten_cons,List.flatten_nil,List.append_nil]
  rw [← List.append_assoc]
  congr 1
  have hXe:X=q*10^19+r:=by
   rw [hq,hr];have:=Nat.div_add_mod X U19;rw [Nat.mul_comm] at this;exact this.symm
  have ysG:r<10^19:=by rw [hr];exact Nat.mod_lt _ (by decide)
  rw [hps]
  by_cases hq0:q=0
  ·rw [if_pos hq0,if_pos hq0,hXe,hq0];simp
  ·rw [if_neg hq0,if_neg hq0,hXe,ytG q r (by omega) ysG]
 ·have:=yj1 hx hX (h.pow hX)
  rw [List.length_append];simp;omega
 ·intro hq0
  have h1:=h.pow hX
  have h2:q*U19≤X:=by rw [hq];exact Nat.div_mul_le_self _ _
  have h3:10^(19*(xs++[ps]).length)*q=10^(19*xs.length)*(q*U19):=by
   rw [List.length_append]
   show 10^(19*(xs.length+1))*q=_
   rw [Nat.mul_add,Nat.pow_add,Nat.mul_assoc]
   have:(10^(19*1):Nat)=U19:=by decide
   rw [this,Nat.mul_comm U19 q]
  rw [h3]
  exact Nat.le_trans (Nat.mul_le_mul_left _ h2) h1
 ·have:=h.le
  have:q≤X:=by rw [hq];exact Nat.div_le_self _ _
  omega
theorem yj2 (u:Value) (x K:Nat) (w:World) (hK:K≤1000000) (hx:x<yB^K) (hu:yI w u x) (htab:Tab w):Calls Tryz.prog 213 #[u] w (Rp (.string ⟨(decDigits x).toArray⟩) w):=by
 obtain ⟨i0,hi,hz0,hz1,hz2⟩:=info_parts ywh
 by_cases h0:x=0
 ·subst h0
  obtain ⟨p,n,c,rfl⟩:=hu.slice
  obtain rfl:n=0:=(jF hu).2 rfl
  have hd:decDigits 0=[48]:=by rw [decDigits_one (by omega)];rfl
  rw [hd]
  clear htab hu hx hK
  go_in
  go_wp2_with fail
  refine (jS _ _ _ _).mono ?_
  rintro e w1 ⟨rfl,rfl⟩
  go_wp2
  go_ret
  exact ⟨rfl,Below.refl _ _⟩
 ·obtain ⟨p,n,c,rfl⟩:=hu.slice
  have hn0:((n:Int)==0)=false:=by
   rw [beq_eq_false_iff_ne];have:=jF hu;omega
  have hst:Hid (TextAt w w x K (.slice p n c) (.slice none 0 0) x []):=yA ⟨hu,World.ownsRow_nil _ _ _ _,Below.refl _ _,fun _ _ _ _ _=>by simp [Value.ownBlock],by simp [h0],by simp,fun _=>by simp,Nat.le_refl _⟩
  have Hx:=yA hx
  have Htab:=yA htab
  have H0:=yA h0
  clear hu hx htab h0
  go_in
  go_wp2_with fail
  refine (jS _ _ _ _).mono ?_
  rintro e w1 ⟨rfl,rfl⟩
  rw [hn0]
  clear hn0
  go_wp2
  go_loopw [0,3] (fun xv pv wr=>∃ (X:Nat) (xs:List ByteArray) (p:Oa) (n c:Nat),xv=.slice p n c∧Hid (TextAt w wr x K xv pv X xs)) (fun _ pv _=>2*K+2-yuf pv)
  case atStart=>exact ⟨x,[],p,n,c,rfl,hst⟩
  case round =>
   obtain ⟨X,xs,p2,n2,c2,rfl,yJ⟩:=hrel
   by_cases hX0:X=0
   ·have hn2:((n2:Int)==0)=true:=by
     rw [(jF yJ.out.nat).2 hX0];rfl
    have hne:=yJ.out.ne H0.out hX0
    obtain ⟨g,cap,rfl,hcap,ybe⟩:=yoF w.heap.size xs _ wr yJ.out.own hne (by have:=yJ.out.count;omega)
    have Hrev:=yA ybe
    have hjl:Hid ((Lib.join (xs.reverse.map (·.data.toList)) [])=decDigits x):=yA (by
     rw [yrJ]
     have:=yJ.out.text
     rw [if_pos hX0,List.nil_append] at this
     exact this)
    have hjoin:∀ W:World,g<W.heap.size→(∀ (j:Nat) y,xs.reverse[j]?=some y→W.cell? ⟨g,0+j,none⟩=some (.string y))→Hid (Calls Tryz.prog 246 #[.slice (some ⟨g,0,none⟩) xs.length cap,.string ⟨#[]⟩] W (Rp (.string ⟨(decDigits x).toArray⟩) W)):=fun W hg hc=>yA (by
     have ylv:=yJ.out.count
     have h:=Go.Proofs.Tryz.strings_Join g 0 cap xs.reverse ⟨#[]⟩ W hc hg (by rw [List.length_reverse];omega) (by rw [List.length_reverse];exact hcap) (by
      have e:(⟨#[]⟩:ByteArray).data.toList=[]:=rfl
      rw [e,hjl.out,decDigits_length]
      have:=yoG Hx.out H0.out
      omega)
     rw [List.length_reverse] at h
     have e:(⟨#[]⟩:ByteArray).data.toList=[]:=rfl
     rw [e,hjl.out] at h
     exact h)
    clear ybe hX0 hne
    go_wp2_with fail
    refine (jS _ _ _ _).mono ?_
    rintro e w1 ⟨rfl,rfl⟩
    rw [hn2]
    clear hn2
    go_wp2_with fail
    refine Hrev.out.mono ?_
    rintro e w2 ⟨rfl,hb2,hg2,hc2⟩
    have hj2:=hjoin w2 hg2 hc2
    have hbl:=yA (yJ.out.below.trans hb2)
    clear hb2 hg2 hc2 hjoin
    go_wp2_with fail
    refine hj2.out.mono ?_
    rintro e w3 ⟨rfl,hb3⟩
    have yF:=yA (tr hbl.out hb3)
    clear hb3
    go_wp2
    go_ret
    exact ⟨rfl,yF.out⟩
   ·have hn2:((n2:Int)==0)=false:=by
     rw [beq_eq_false_iff_ne];have:=jF yJ.out.nat;omega
    obtain ⟨q,hq⟩:∃ q,Hid (q=X/U19):=⟨_,yA rfl⟩
    obtain ⟨r,hr⟩:∃ r,Hid (r=X%U19):=⟨_,yA rfl⟩
    obtain ⟨fs,hfs⟩:∃ fs:ByteArray,Hid (fs=⟨(decDigits r).toArray⟩):=⟨_,yA rfl⟩
    have ysG:Hid (r<10^19):=yA (by rw [hr.out];exact Nat.mod_lt _ (by decide))
    have hfd:Hid (fs.data.toList=decDigits r∧fs.size=nDigits r∧nDigits r≤19):=yA (by
     refine ⟨by rw [hfs.out],by rw [hfs.out,size_toArray,decDigits_length],ydJ 19 r (by omega) ysG.out⟩)
    obtain ⟨m,hm⟩:∃ m:Nat,Hid (m=19-nDigits r):=⟨_,yA rfl⟩
    have hc19:(19:Int)-fs.size=(m:Int):=by rw [hm.out,hfd.out.2.1];have:=hfd.out.2.2;omega
    have hfs1:(fs.size:Int)≤19:=by rw [hfd.out.2.1];have:=hfd.out.2.2;omega
    have hdl:Hid (Calls Tryz.prog 183 #[.slice p2 n2 c2,.int .u64 10000000000000000000] wr fun e w'=>∃ k,e=.returned (.tuple #[.slice (some ⟨wr.heap.size,0,none⟩) k n2,.int .u64 (r:Int)])∧yI w' (.slice (some ⟨wr.heap.size,0,none⟩) k n2) q∧Be wr w'∧∃ L,zV w' wr.heap.size 86 L):=yA (by
     obtain ⟨p',n',c',l,he,hnc,hrd,hcn,hvl⟩:=yJ.out.nat
     cases he
     have hXK:X<yB^K:=Nat.lt_of_le_of_lt yJ.out.le Hx.out
     have hn:=yaj hcn hvl hXK hrd
     have h:=yei p2 n2 c2 l U19 wr (by unfold yK;omega) hrd hcn.1 (by decide) (by rw [yqh,yS];omega)
     rw [hq.out,hr.out,← hvl]
     exact h)
    have ypG:∀ W,Tab W→Hid (Calls Tryz.prog 244 #[.int .u64 (r:Int),.int .i64 10] W (Rp (.string fs) W)):=fun W hW=>yA (by
     rw [hfs.out];exact ykU r (by have:=ysG.out;omega) W hW)
    obtain ⟨y,hy⟩:∃ y:ByteArray,Hid (y=⟨(repeatL [48] m).toArray⟩):=⟨_,yA rfl⟩
    have hysz:(y.size:Int)≤19:=by rw [hy.out,size_toArray,repeatL_length];have:=hm.out;simp;omega
    have hrep:∀ W,Hid (Calls Tryz.prog 210 #[.string ⟨#[48]⟩,.int .i64 m] W (Rp (.string y) W)):=fun W=>yA (by
     rw [hy.out]
     have h1:(⟨#[48]⟩:ByteArray).size=1:=rfl
     have:=hm.out
     exact Go.Proofs.Tryz.strings_Repeat ⟨#[48]⟩ m W (by omega) (by rw [h1];omega))
    have ylv:=yA (yj1 Hx.out hX0 (yJ.out.pow hX0))
    have ygG:Hid (xs.length+1≤maxLen):=yA (by have:=ylv.out;unfold maxLen;omega)
    have hcap2:Hid ((xs.length+1)*16≤140737488355328):=yA (by have:=ylv.out;omega)
    have hbw:=yA yJ.out.below
    have HX0:=yA hX0
    clear hX0
    go_wp2_with fail
    refine (jS _ _ _ _).mono ?_
    rintro e w1 ⟨rfl,rfl⟩
    rw [hn2]
    clear hn2
    go_wp2_with fail
    refine hdl.out.mono ?_
    rintro e w2 ⟨kq,rfl,hvq,hb2,L,uJ⟩
    have hownw2:=yA (ydK yJ.out.own hb2)
    have htab2:=(Htab.out.below hbw.out).below hb2
    have hf2:=ypG w2 htab2
    have Hvq:=yA hvq
    have Hrow:=yA uJ
    have Hb2:=yA hb2
    clear hvq uJ hb2 htab2
    go_wp2_with fail
    refine hf2.out.mono ?_
    rintro e w3 ⟨rfl,hb3⟩
    have Hown3:=yA (ydK hownw2.out hb3)
    have Hvq3:=yA (Hvq.out.below hb3)
    have Hrow3:=yA (Below.row hb3 Hrow.out Hrow.out.lt)
    have Hb3:=yA (tr Hb2.out hb3)
    clear hb3 hf2
    go_wp2_with fail
    refine (jS _ _ _ _).mono ?_
    rintro e w4 ⟨rfl,rfl⟩
    by_cases hq0:q=0
    ·have hkq:((kq:Int)==0)=true:=by
      rw [(jF Hvq3.out).2 hq0];rfl
     rw [hkq]
     have Hps:=yA (show fs.data.toList=if q=0 then decDigits r else repeatL [48] (19-nDigits r)++decDigits r by rw [if_pos hq0];exact hfd.out.1)
     have yp1:Hid (w.heap.size≤w3.heap.size+1):=yA (by have h1:=hbw.out.size;have h2:=Hb3.out.size;omega)
     clear hq0 hkq
     go_wp2_with (at_builtin;refine wpList_append_own _ rfl (.tmp 28) (.tmp 30) 30 rfl w.heap.size 9 i0 (.string ByteArray.empty) 1 16 Tryz.underlying30 hi hz0 hz1 hz2 rfl (by decide) _ _ _ rfl (Hown3.out.alloc _) ⟨w3.heap.size,0,none⟩ 1 1 [.string fs] rfl rfl (cell_one_new _ _ _) (by intro u hu;simp at hu;subst hu;rfl) ygG.out hcap2.out (by simp;exact yp1.out) ?_)
     intro v5 w5 yM yH _
     have jE:=yA (yht yJ.out HX0.out Hx.out Hb3.out hq.out hr.out Hvq3.out Hrow3.out Hps.out rfl yM yH)
     clear yM yH
     go_wp2
     go_roundw
     case rel=>exact ⟨q,xs++[fs],_,_,_,rfl,jE⟩
     case measure =>
      have h1:=jE.out.len
      have h2:=yJ.out.len
      have h3:=jE.out.count
      rw [List.length_append] at h1 h3
      simp only [List.length_cons,List.length_nil] at h1 h3
      omega
    ·have hkq:((kq:Int)==0)=false:=by
      rw [beq_eq_false_iff_ne];have:=jF Hvq3.out;omega
     rw [hkq]
     have Hps:=yA (show (y++fs).data.toList=if q=0 then decDigits r else repeatL [48] (19-nDigits r)++decDigits r by rw [if_neg hq0,← hm.out,← hfd.out.1,hy.out];simp)
     clear hq0 hkq
     go_wp2_with fail
     refine (hrep _).out.mono ?_
     rintro e w6 ⟨rfl,hb6⟩
     have Hown6:=yA (ydK Hown3.out hb6)
     have Hvq6:=yA (Hvq3.out.below hb6)
     have Hrow6:=yA (Below.row hb6 Hrow3.out Hrow3.out.lt)
     have Hb6:=yA (tr Hb3.out hb6)
     have yp1:Hid (w.heap.size≤w6.heap.size+1):=yA (by have h1:=hbw.out.size;have h2:=Hb6.out.size;omega)
     clear hb6
     go_wp2_with (at_builtin;refine wpList_append_own _ rfl (.tmp 28) (.tmp 30) 30 rfl w.heap.size 9 i0 (.string ByteArray.empty) 1 16 Tryz.underlying30 hi hz0 hz1 hz2 rfl (by decide) _ _ _ rfl (Hown6.out.alloc _) ⟨w6.heap.size,0,none⟩ 1 1 [.string (y++fs)] rfl rfl (cell_one_new _ _ _) (by intro u hu;simp at hu;subst hu;rfl) ygG.out hcap2.out (by simp;exact yp1.out) ?_)
     intro v5 w5 yM yH _
     have jE:=yA (yht yJ.out HX0.out Hx.out Hb6.out hq.out hr.out Hvq6.out Hrow6.out Hps.out rfl yM yH)
     clear yM yH
     go_wp2
     go_roundw
     case rel=>exact ⟨q,xs++[(y++fs)],_,_,_,rfl,jE⟩
     case measure =>
      have h1:=jE.out.len
      have h2:=yJ.out.len
      have h3:=jE.out.count
      rw [List.length_append] at h1 h3
      simp only [List.length_cons,List.length_nil] at h1 h3
      omega
def ycZ (s:Bool) (a b:Nat) (digits:Nat):Option Lb :=
 if nDigits (a/Nat.gcd a b)≤digits∧nDigits (b/Nat.gcd a b)≤digits then
  some ((if s then [45] else [])++decDigits (a/Nat.gcd a b)++(if b/Nat.gcd a b=1 then [] else 47::decDigits (b/Nat.gcd a b)))
 else none
def yd1 (o:Option Lb) (w:World) (e:Ending) (w':World):Prop :=
 Be w w'∧match o with
 | some l=>e=.returned (.tuple #[.string ⟨l.toArray⟩,.bool true])
 | none=>e=.returned (.tuple #[.string ⟨#[]⟩,.bool false])
theorem ydy {x D:Nat} (h:¬ x<yB^(D/19+1)):D<nDigits x:=by
 apply Nat.lt_of_not_le
 intro h1
 have h2:=lt_pow_nDigits x
 have h3:10^nDigits x≤10^(19*(D/19+1)):=Nat.pow_le_pow_right (by omega) (by omega)
 have h4:10^(19*(D/19+1))≤yB^(D/19+1):=by rw [Nat.pow_mul];exact Nat.pow_le_pow_left (by rw [yS];decide) _
 omega
theorem yiI (s:Bool) (u v:Value) (D:Nat) (w:World) (hD:(D:Int)≤100000) (L:Nat) (hL:(D:Int)/19+1=L) (GS:∀ W:World,Be w W→Hid (Calls Tryz.prog 212 #[u,v,.int .i64 L] W (Rp (.tuple #[.slice none 0 0,.slice none 0 0,.bool false]) W))):Calls Tryz.prog 176 #[.agg #[.bool s,u,v],.int .i64 D] w (yd1 none w):=by
 have hb1:=yA (bea w (.cells #[.bool s,u,v] 98))
 have hl:=GS _ hb1.out
 clear GS
 go_in
 go_wp2_with fail
 refine hl.out.mono ?_
 rintro e w2 ⟨rfl,hb2⟩
 have hb:=yA (tr hb1.out hb2)
 clear hb2
 go_wp2
 go_ret2
 exact ⟨hb.out,rfl⟩
def ye0 (s1 s2:ByteArray) (W:World) (e:Ending) (w':World):Prop :=
 Be W w'∧∃ tv uv,e=.returned (.tuple #[tv,uv,.bool true])∧∀ W2,Be w' W2→Hid (Calls Tryz.prog 213 #[tv] W2 fun e w3=>e=.returned (.string s1)∧Be W2 w3)∧Hid (Calls Tryz.prog 213 #[uv] W2 fun e w3=>e=.returned (.string s2)∧Be W2 w3)
theorem yiJ (s:Bool) (u v:Value) (D:Nat) (w:World) (hD:(D:Int)≤100000) (L:Nat) (hL:(D:Int)/19+1=L) (s1 s2:ByteArray) (GS:∀ W:World,Be w W→Hid (Calls Tryz.prog 212 #[u,v,.int .i64 L] W (ye0 s1 s2 W))) (h1:D<s1.size):Calls Tryz.prog 176 #[.agg #[.bool s,u,v],.int .i64 D] w (yd1 (none) w):=by
 have hb1:=yA (bea w (.cells #[.bool s,u,v] 98))
 have hc1:(w.alloc (.cells #[.bool s,u,v] 98)).cell? ⟨w.heap.size,0,none⟩=some (.bool s):=zW (zG _ _) 0
 have Hc1:=yA hc1
 have hl:=GS _ hb1.out
 clear GS hc1
 go_in
 go_wp2_with fail
 refine hl.out.mono ?_
 rintro e w2 ⟨hb2,tv,uv,rfl,htx⟩
 have hb:=yA (tr hb1.out hb2)
 have Hc2:=yA (hb2.cell (p:=⟨w.heap.size,0,none⟩) (by simp) |>.trans Hc1.out)
 have Hlt:=yA (show w.heap.size<w2.heap.size by have:=hb2.size;simp at this;omega)
 have ht1:=(htx w2 bR).1
 have Htx:=yA htx
 clear hb2 htx
 go_wp2_with fail
 refine ht1.out.mono ?_
 rintro e w3 ⟨rfl,hb3⟩
 have ht2:=(Htx.out w3 hb3).2
 have hbb:=yA (tr hb.out hb3)
 have Hc3:=yA ((hb3.cell (p:=⟨w.heap.size,0,none⟩) Hlt.out).trans Hc2.out)
 have Hlt3:=yA (Nat.lt_of_lt_of_le Hlt.out hb3.size)
 clear hb3 ht1
 go_wp2_with fail
 refine ht2.out.mono ?_
 rintro e w4 ⟨rfl,hb4⟩
 have hbw:=yA (tr hbb.out hb4)
 have hc4:=(hb4.cell (p:=⟨w.heap.size,0,none⟩) Hlt3.out).trans Hc3.out
 clear hb4 ht2
 go_wp2
 go_ret2
 exact ⟨hbw.out,rfl⟩
theorem yiK (s:Bool) (u v:Value) (D:Nat) (w:World) (hD:(D:Int)≤100000) (L:Nat) (hL:(D:Int)/19+1=L) (s1 s2:ByteArray) (GS:∀ W:World,Be w W→Hid (Calls Tryz.prog 212 #[u,v,.int .i64 L] W (ye0 s1 s2 W))) (h1:¬ D<s1.size) (h2:D<s2.size):Calls Tryz.prog 176 #[.agg #[.bool s,u,v],.int .i64 D] w (yd1 (none) w):=by
 have hb1:=yA (bea w (.cells #[.bool s,u,v] 98))
 have hc1:(w.alloc (.cells #[.bool s,u,v] 98)).cell? ⟨w.heap.size,0,none⟩=some (.bool s):=zW (zG _ _) 0
 have Hc1:=yA hc1
 have hl:=GS _ hb1.out
 clear GS hc1
 go_in
 go_wp2_with fail
 refine hl.out.mono ?_
 rintro e w2 ⟨hb2,tv,uv,rfl,htx⟩
 have hb:=yA (tr hb1.out hb2)
 have Hc2:=yA (hb2.cell (p:=⟨w.heap.size,0,none⟩) (by simp) |>.trans Hc1.out)
 have Hlt:=yA (show w.heap.size<w2.heap.size by have:=hb2.size;simp at this;omega)
 have ht1:=(htx w2 bR).1
 have Htx:=yA htx
 clear hb2 htx
 go_wp2_with fail
 refine ht1.out.mono ?_
 rintro e w3 ⟨rfl,hb3⟩
 have ht2:=(Htx.out w3 hb3).2
 have hbb:=yA (tr hb.out hb3)
 have Hc3:=yA ((hb3.cell (p:=⟨w.heap.size,0,none⟩) Hlt.out).trans Hc2.out)
 have Hlt3:=yA (Nat.lt_of_lt_of_le Hlt.out hb3.size)
 clear hb3 ht1
 go_wp2_with fail
 refine ht2.out.mono ?_
 rintro e w4 ⟨rfl,hb4⟩
 have hbw:=yA (tr hbb.out hb4)
 have hc4:=(hb4.cell (p:=⟨w.heap.size,0,none⟩) Hlt3.out).trans Hc3.out
 clear hb4 ht2
 go_wp2
 go_ret2
 exact ⟨hbw.out,rfl⟩
theorem ytI (s1 s2:ByteArray) (w:World) (hz1:(s1.size:Int)≤100000) (jT:(s2.toList==[49])=true) (_hz2:(s2.size:Int)≤100000):Calls Tryz.prog 214 #[.bool true,.string s1,.string s2] w (fun e w'=>w=w'∧e=.returned (.string (⟨#[45]⟩++s1))):=by
 go_in
 go_wp2
 go_ret
 exact ⟨rfl,rfl⟩
theorem ytJ (s1 s2:ByteArray) (w:World) (hz1:(s1.size:Int)≤100000) (jT:(s2.toList==[49])=false) (hz2:(s2.size:Int)≤100000):Calls Tryz.prog 214 #[.bool true,.string s1,.string s2] w (fun e w'=>w=w'∧e=.returned (.string (⟨#[45]⟩++s1++(⟨#[47]⟩++s2)))):=by
 go_in
 go_wp2
 go_ret
 exact ⟨rfl,rfl⟩
theorem ytK (s1 s2:ByteArray) (w:World) (_hz1:(s1.size:Int)≤100000) (jT:(s2.toList==[49])=true) (_hz2:(s2.size:Int)≤100000):Calls Tryz.prog 214 #[.bool false,.string s1,.string s2] w (fun e w'=>w=w'∧e=.returned (.string (s1))):=by
 go_in
 go_wp2
 go_ret
 exact ⟨rfl,rfl⟩
theorem ytL (s1 s2:ByteArray) (w:World) (hz1:(s1.size:Int)≤100000) (jT:(s2.toList==[49])=false) (hz2:(s2.size:Int)≤100000):Calls Tryz.prog 214 #[.bool false,.string s1,.string s2] w (fun e w'=>w=w'∧e=.returned (.string (s1++(⟨#[47]⟩++s2)))):=by
 go_in
 go_wp2
 go_ret
 exact ⟨rfl,rfl⟩
theorem yfm (u v:Value) (D:Nat) (w:World) (hD:(D:Int)≤100000) (L:Nat) (hL:(D:Int)/19+1=L) (s1 s2:ByteArray) (GS:∀ W:World,Be w W→Hid (Calls Tryz.prog 212 #[u,v,.int .i64 L] W (ye0 s1 s2 W))) (h1:¬ D<s1.size) (h2:¬ D<s2.size) (hz1:(s1.size:Int)≤100000) (jT:(s2.toList==[49])=true) (_hz2:(s2.size:Int)≤100000):Calls Tryz.prog 176 #[.agg #[.bool true,u,v],.int .i64 D] w ((Rp (.tuple #[.string (⟨#[45]⟩++s1),.bool true]) w)):=by
 have hb1:=yA (bea w (.cells #[.bool true,u,v] 98))
 have hc1:(w.alloc (.cells #[.bool true,u,v] 98)).cell? ⟨w.heap.size,0,none⟩=some (.bool true):=zW (zG _ _) 0
 have Hc1:=yA hc1
 have hl:=GS _ hb1.out
 clear GS hc1
 go_in
 go_wp2_with fail
 refine hl.out.mono ?_
 rintro e w2 ⟨hb2,tv,uv,rfl,htx⟩
 have hb:=yA (tr hb1.out hb2)
 have Hc2:=yA (hb2.cell (p:=⟨w.heap.size,0,none⟩) (by simp) |>.trans Hc1.out)
 have Hlt:=yA (show w.heap.size<w2.heap.size by have:=hb2.size;simp at this;omega)
 have ht1:=(htx w2 bR).1
 have Htx:=yA htx
 clear hb2 htx
 go_wp2_with fail
 refine ht1.out.mono ?_
 rintro e w3 ⟨rfl,hb3⟩
 have ht2:=(Htx.out w3 hb3).2
 have hbb:=yA (tr hb.out hb3)
 have Hc3:=yA ((hb3.cell (p:=⟨w.heap.size,0,none⟩) Hlt.out).trans Hc2.out)
 have Hlt3:=yA (Nat.lt_of_lt_of_le Hlt.out hb3.size)
 clear hb3 ht1
 go_wp2_with fail
 refine ht2.out.mono ?_
 rintro e w4 ⟨rfl,hb4⟩
 have hbw:=yA (tr hbb.out hb4)
 have hc4:=(hb4.cell (p:=⟨w.heap.size,0,none⟩) Hlt3.out).trans Hc3.out
 clear hb4 ht2
 have hz:=yA (ytI s1 s2 w4 hz1 jT _hz2)
 go_wp2_with fail
 refine hz.out.mono ?_
 rintro e w' ⟨rfl,rfl⟩
 go_wp2
 go_ret2
 exact ⟨rfl,hbw.out⟩
theorem yfn (u v:Value) (D:Nat) (w:World) (hD:(D:Int)≤100000) (L:Nat) (hL:(D:Int)/19+1=L) (s1 s2:ByteArray) (GS:∀ W:World,Be w W→Hid (Calls Tryz.prog 212 #[u,v,.int .i64 L] W (ye0 s1 s2 W))) (h1:¬ D<s1.size) (h2:¬ D<s2.size) (hz1:(s1.size:Int)≤100000) (jT:(s2.toList==[49])=false) (hz2:(s2.size:Int)≤100000):Calls Tryz.prog 176 #[.agg #[.bool true,u,v],.int .i64 D] w ((Rp (.tuple #[.string (⟨#[45]⟩++s1++(⟨#[47]⟩++s2)),.bool true]) w)):=by
 have hb1:=yA (bea w (.cells #[.bool true,u,v] 98))
 have hc1:(w.alloc (.cells #[.bool true,u,v] 98)).cell? ⟨w.heap.size,0,none⟩=some (.bool true):=zW (zG _ _) 0
 have Hc1:=yA hc1
 have hl:=GS _ hb1.out
 clear GS hc1
 go_in
 go_wp2_with fail
 refine hl.out.mono ?_
 rintro e w2 ⟨hb2,tv,uv,rfl,htx⟩
 have hb:=yA (tr hb1.out hb2)
 have Hc2:=yA (hb2.cell (p:=⟨w.heap.size,0,none⟩) (by simp) |>.trans Hc1.out)
 have Hlt:=yA (show w.heap.size<w2.heap.size by have:=hb2.size;simp at this;omega)
 have ht1:=(htx w2 bR).1
 have Htx:=yA htx
 clear hb2 htx
 go_wp2_with fail
 refine ht1.out.mono ?_
 rintro e w3 ⟨rfl,hb3⟩
 have ht2:=(Htx.out w3 hb3).2
 have hbb:=yA (tr hb.out hb3)
 have Hc3:=yA ((hb3.cell (p:=⟨w.heap.size,0,none⟩) Hlt.out).trans Hc2.out)
 have Hlt3:=yA (Nat.lt_of_lt_of_le Hlt.out hb3.size)
 clear hb3 ht1
 go_wp2_with fail
 refine ht2.out.mono ?_
 rintro e w4 ⟨rfl,hb4⟩
 have hbw:=yA (tr hbb.out hb4)
 have hc4:=(hb4.cell (p:=⟨w.heap.size,0,none⟩) Hlt3.out).trans Hc3.out
 clear hb4 ht2
 have hz:=yA (ytJ s1 s2 w4 hz1 jT hz2)
 go_wp2_with fail
 refine hz.out.mono ?_
 rintro e w' ⟨rfl,rfl⟩
 go_wp2
 go_ret2
 exact ⟨rfl,hbw.out⟩
theorem yfo (u v:Value) (D:Nat) (w:World) (hD:(D:Int)≤100000) (L:Nat) (hL:(D:Int)/19+1=L) (s1 s2:ByteArray) (GS:∀ W:World,Be w W→Hid (Calls Tryz.prog 212 #[u,v,.int .i64 L] W (ye0 s1 s2 W))) (h1:¬ D<s1.size) (h2:¬ D<s2.size) (_hz1:(s1.size:Int)≤100000) (jT:(s2.toList==[49])=true) (_hz2:(s2.size:Int)≤100000):Calls Tryz.prog 176 #[.agg #[.bool false,u,v],.int .i64 D] w ((Rp (.tuple #[.string s1,.bool true]) w)):=by
 have hb1:=yA (bea w (.cells #[.bool false,u,v] 98))
 have hc1:(w.alloc (.cells #[.bool false,u,v] 98)).cell? ⟨w.heap.size,0,none⟩=some (.bool false):=zW (zG _ _) 0
 have Hc1:=yA hc1
 have hl:=GS _ hb1.out
 clear GS hc1
 go_in
 go_wp2_with fail
 refine hl.out.mono ?_
 rintro e w2 ⟨hb2,tv,uv,rfl,htx⟩
 have hb:=yA (tr hb1.out hb2)
 have Hc2:=yA (hb2.cell (p:=⟨w.heap.size,0,none⟩) (by simp) |>.trans Hc1.out)
 have Hlt:=yA (show w.heap.size<w2.heap.size by have:=hb2.size;simp at this;omega)
 have ht1:=(htx w2 bR).1
 have Htx:=yA htx
 clear hb2 htx
 go_wp2_with fail
 refine ht1.out.mono ?_
 rintro e w3 ⟨rfl,hb3⟩
 have ht2:=(Htx.out w3 hb3).2
 have hbb:=yA (tr hb.out hb3)
 have Hc3:=yA ((hb3.cell (p:=⟨w.heap.size,0,none⟩) Hlt.out).trans Hc2.out)
 have Hlt3:=yA (Nat.lt_of_lt_of_le Hlt.out hb3.size)
 clear hb3 ht1
 go_wp2_with fail
 refine ht2.out.mono ?_
 rintro e w4 ⟨rfl,hb4⟩
 have hbw:=yA (tr hbb.out hb4)
 have hc4:=(hb4.cell (p:=⟨w.heap.size,0,none⟩) Hlt3.out).trans Hc3.out
 clear hb4 ht2
 have hz:=yA (ytK s1 s2 w4 _hz1 jT _hz2)
 go_wp2_with fail
 refine hz.out.mono ?_
 rintro e w' ⟨rfl,rfl⟩
 go_wp2
 go_ret2
 exact ⟨rfl,hbw.out⟩
theorem yfp (u v:Value) (D:Nat) (w:World) (hD:(D:Int)≤100000) (L:Nat) (hL:(D:Int)/19+1=L) (s1 s2:ByteArray) (GS:∀ W:World,Be w W→Hid (Calls Tryz.prog 212 #[u,v,.int .i64 L] W (ye0 s1 s2 W))) (h1:¬ D<s1.size) (h2:¬ D<s2.size) (hz1:(s1.size:Int)≤100000) (jT:(s2.toList==[49])=false) (hz2:(s2.size:Int)≤100000):Calls Tryz.prog 176 #[.agg #[.bool false,u,v],.int .i64 D] w ((Rp (.tuple #[.string (s1++(⟨#[47]⟩++s2)),.bool true]) w)):=by
 have hb1:=yA (bea w (.cells #[.bool false,u,v] 98))
 have hc1:(w.alloc (.cells #[.bool false,u,v] 98)).cell? ⟨w.heap.size,0,none⟩=some (.bool false):=zW (zG _ _) 0
 have Hc1:=yA hc1
 have hl:=GS _ hb1.out
 clear GS hc1
 go_in
 go_wp2_with fail
 refine hl.out.mono ?_
 rintro e w2 ⟨hb2,tv,uv,rfl,htx⟩
 have hb:=yA (tr hb1.out hb2)
 have Hc2:=yA (hb2.cell (p:=⟨w.heap.size,0,none⟩) (by simp) |>.trans Hc1.out)
 have Hlt:=yA (show w.heap.size<w2.heap.size by have:=hb2.size;simp at this;omega)
 have ht1:=(htx w2 bR).1
 have Htx:=yA htx
 clear hb2 htx
 go_wp2_with fail
 refine ht1.out.mono ?_
 rintro e w3 ⟨rfl,hb3⟩
 have ht2:=(Htx.out w3 hb3).2
 have hbb:=yA (tr hb.out hb3)
 have Hc3:=yA ((hb3.cell (p:=⟨w.heap.size,0,none⟩) Hlt.out).trans Hc2.out)
 have Hlt3:=yA (Nat.lt_of_lt_of_le Hlt.out hb3.size)
 clear hb3 ht1
 go_wp2_with fail
 refine ht2.out.mono ?_
 rintro e w4 ⟨rfl,hb4⟩
 have hbw:=yA (tr hbb.out hb4)
 have hc4:=(hb4.cell (p:=⟨w.heap.size,0,none⟩) Hlt3.out).trans Hc3.out
 clear hb4 ht2
 have hz:=yA (ytL s1 s2 w4 hz1 jT hz2)
 go_wp2_with fail
 refine hz.out.mono ?_
 rintro e w' ⟨rfl,rfl⟩
 go_wp2
 go_ret2
 exact ⟨rfl,hbw.out⟩
theorem yeU (y:Nat):decDigits y=[49]↔y=1:=by
 constructor
 ·intro h
  have h1:=congrArg List.length h
  rw [decDigits_length] at h1
  have hy:y<10:=by
   have:=lt_pow_nDigits y
   rw [h1] at this;simpa using this
  rw [decDigits_one hy] at h
  match y,hy with
  | 0,_=>revert h;decide
  | 1,_=>rfl
  | 2,_=>revert h;decide
  | 3,_=>revert h;decide
  | 4,_=>revert h;decide
  | 5,_=>revert h;decide
  | 6,_=>revert h;decide
  | 7,_=>revert h;decide
  | 8,_=>revert h;decide
  | 9,_=>revert h;decide
 ·rintro rfl
  rw [decDigits_one (by omega)];rfl
theorem ycR (y:Nat):(⟨(decDigits y).toArray⟩:ByteArray).size=nDigits y:=by rw [size_toArray,decDigits_length]
theorem yrK (y:Nat):((⟨(decDigits y).toArray⟩:ByteArray).toList==[49])=decide (y=1):=by
 rw [Lib.toList_data]
 by_cases h:y=1
 ·rw [(yeU y).2 h];subst h;decide
 ·have h2:decDigits y≠[49]:=fun e=>h ((yeU y).1 e)
  simp only [h,decide_false]
  rw [beq_eq_false_iff_ne]
  simpa using h2
theorem ykW (x:Value) (s:Bool) (a b K D:Nat) (w:World) (hK:K≤1000000) (hD:D≤100000) (ha:a<yB^K) (hb:b<yB^K) (hb0:0<b) (hx:vM w x s a b) (htab:Tab w):Calls Tryz.prog 176 #[x,.int .i64 D] w (yd1 (ycZ s a b D) w):=by
 obtain ⟨u,v,rfl,hu,hv,hs⟩:=hx
 have hD':(D:Int)≤100000:=by omega
 have hL:(D:Int)/19+1=((D/19+1:Nat):Int):=by omega
 have GS:∀ W:World,Be w W→Calls Tryz.prog 212 #[u,v,.int .i64 ((D/19+1:Nat):Int)] W (yaV a b (D/19+1) W):=fun W hW =>
  ymf u v a b (D/19+1) K W (by omega) (by omega) ha hb hb0 (hu.below hW) (hv.below hW)
 unfold ycZ
 by_cases yhQ:a/Nat.gcd a b<yB^(D/19+1)∧b/Nat.gcd a b<yB^(D/19+1)
 ·have hok:∀ W:World,Be w W→Hid (Calls Tryz.prog 212 #[u,v,.int .i64 ((D/19+1:Nat):Int)] W (ye0 ⟨(decDigits (a/Nat.gcd a b)).toArray⟩ ⟨(decDigits (b/Nat.gcd a b)).toArray⟩ W)):=fun W hW=>yA ((GS W hW).mono fun e w' h=>by
   obtain ⟨hbl,h|h⟩:=h
   ·obtain ⟨-,-,tv,uv,he,h1,h2⟩:=h
    refine ⟨hbl,tv,uv,he,fun W2 hW2=>⟨yA ?_,yA ?_⟩⟩
    ·exact yj2 tv _ (D/19+1) W2 (by omega) yhQ.1 (h1.below hW2) (((htab.below hW).below hbl).below hW2)
    ·exact yj2 uv _ (D/19+1) W2 (by omega) yhQ.2 (h2.below hW2) (((htab.below hW).below hbl).below hW2)
   ·exact absurd yhQ h.1)
  generalize a/Nat.gcd a b=n at hok ⊢
  generalize b/Nat.gcd a b=d at hok ⊢
  by_cases h1:D<nDigits n
  ·rw [if_neg (by omega)]
   exact yiJ s u v D w hD' _ hL _ _ hok (by rw [ycR];exact h1)
  ·by_cases h2:D<nDigits d
   ·rw [if_neg (by omega)]
    exact yiK s u v D w hD' _ hL _ _ hok (by rw [ycR];exact h1) (by rw [ycR];exact h2)
   ·rw [if_pos (by omega)]
    have k1:¬ D<(⟨(decDigits n).toArray⟩:ByteArray).size:=by rw [ycR];exact h1
    have k2:¬ D<(⟨(decDigits d).toArray⟩:ByteArray).size:=by rw [ycR];exact h2
    have z1:((⟨(decDigits n).toArray⟩:ByteArray).size:Int)≤100000:=by omega
    have z2:((⟨(decDigits d).toArray⟩:ByteArray).size:Int)≤100000:=by omega
    have jT:=yrK d
    by_cases hd1:d=1
    ·rw [decide_eq_true hd1] at jT
     rw [if_pos hd1]
     cases s
     ·exact (yfo u v D w hD' _ hL _ _ hok k1 k2 z1 jT z2).mono fun e w' h=>⟨h.2,by rw [h.1];simp⟩
     ·exact (yfm u v D w hD' _ hL _ _ hok k1 k2 z1 jT z2).mono fun e w' h=>⟨h.2,by rw [h.1];simp;rfl⟩
    ·rw [decide_eq_false hd1] at jT
     rw [if_neg hd1]
     cases s
     ·exact (yfp u v D w hD' _ hL _ _ hok k1 k2 z1 jT z2).mono fun e w' h=>⟨h.2,by rw [h.1];simp;rfl⟩
     ·exact (yfn u v D w hD' _ hL _ _ hok k1 k2 z1 jT z2).mono fun e w' h=>⟨h.2,by rw [h.1];simp;rfl⟩
 ·have ycL:¬ (nDigits (a/Nat.gcd a b)≤D∧nDigits (b/Nat.gcd a b)≤D):=by
   intro h
   apply yhQ
   constructor
   ·apply Decidable.byContradiction;intro h2;have:=ydy h2;omega
   ·apply Decidable.byContradiction;intro h2;have:=ydy h2;omega
  rw [if_neg ycL]
  refine yiI s u v D w hD' _ hL fun W hW=>yA ((GS W hW).mono fun e w' h=>?_)
  obtain ⟨hbl,h|h⟩:=h
  ·exact absurd ⟨h.1,h.2.1⟩ yhQ
  ·exact ⟨h.2,hbl⟩
def uY (s:Bool) (a b:Nat):Lb:=(ycZ s a b 40).getD []
theorem yoH (x:Value) (s:Bool) (a b K:Nat) (w:World) (hK:K≤1000000) (ha:a<yB^K) (hb:b<yB^K) (hb0:0<b) (hx:vM w x s a b) (htab:Tab w):Calls Tryz.prog 131 #[x] w (Rp (.string ⟨(uY s a b).toArray⟩) w):=by
 have ht:∀ o,Hid (Calls Tryz.prog 176 #[x,.int .i64 40] (w.alloc o) fun e w'=>Below (w.alloc o).heap.size (w.alloc o) w'∧∃ f,e=.returned (.tuple #[.string ⟨(uY s a b).toArray⟩,.bool f])):=fun o=>yA (by
  have h:=ykW x s a b K 40 (w.alloc o) hK (by omega) ha hb hb0 (hx.below (bea w o)) (htab.below (bea w o))
  refine h.mono fun e w' h=>⟨h.1,?_⟩
  unfold uY
  cases hr:ycZ s a b 40 with
  | none=>have:=h.2;rw [hr] at this;exact ⟨_,this⟩
  | some l=>have:=h.2;rw [hr] at this;exact ⟨_,this⟩)
 obtain ⟨u,v,rfl,-,-,-⟩:=hx
 clear ha hb htab
 go_in
 go_wp2_with fail
 refine (ht _).out.mono ?_
 rintro e w2 ⟨hb2,f,rfl⟩
 have hbw:=yA ((bea w _).trans (hb2.mono (bea w (.cells #[.bool s,u,v] 98)).size))
 clear hb2
 go_wp2
 go_ret
 exact ⟨rfl,hbw.out⟩
theorem yd2 {l:Lb} (h:yZ l=true) (hl:l.length≤90):zC l<yB^20:=by
 have h1:=ycf l (jI h)
 have h2:10^l.length≤10^90:=Nat.pow_le_pow_right (by omega) hl
 have h3:(10^90:Nat)≤yB^20:=by rw [yS];decide
 omega
theorem ymG {l:Lb} {n d:Nat} (h:uQ l=some (n,d)) (hl:l.length≤90):n<yB^20∧d<yB^20∧0<d:=by
 unfold uQ at h
 obtain ⟨k1,k2,k3⟩:=ycW l 46
 obtain ⟨m1,m2,m3⟩:=ycW l 47
 have h3:(10^90:Nat)<yB^20:=by rw [yS];decide
 have h1:1<yB^20:=by rw [yS];decide
 split at h
 ·split at h
  ·rename_i hd
   rw [Bool.and_eq_true] at hd
   simp only [Option.some.injEq,Prod.mk.injEq] at h
   obtain ⟨rfl,rfl⟩:=h
   have e1:yZ ((Lib.cut l [46]).1++(Lib.cut l [46]).2.1)=true:=by
    unfold yZ
    rw [List.all_append,jI hd.1,jI hd.2]
    have:=hd.1
    unfold yZ at this
    simp at this ⊢
    intro h;exact absurd h this.2
   refine ⟨yd2 e1 (by rw [List.length_append];omega),?_,Nat.pow_pos (by omega)⟩
   have:10^(Lib.cut l [46]).2.1.length≤10^90:=Nat.pow_le_pow_right (by omega) (by omega)
   omega
  ·cases h
 ·split at h
  ·split at h
   ·rename_i hd
    rw [Bool.and_eq_true,Bool.and_eq_true] at hd
    simp only [Option.some.injEq,Prod.mk.injEq] at h
    obtain ⟨rfl,rfl⟩:=h
    refine ⟨yd2 hd.1.1 (by omega),yd2 hd.1.2 (by omega),?_⟩
    have:=hd.2
    simp at this;omega
   ·cases h
  ·split at h
   ·rename_i hd
    simp only [Option.some.injEq,Prod.mk.injEq] at h
    obtain ⟨rfl,rfl⟩:=h
    exact ⟨yd2 hd hl,h1,by omega⟩
   ·cases h
theorem yj3 {l:Lb} {s:Bool} {n d:Nat} (h:GP l=some (s,n,d)) (hl:l.length≤90):n<yB^20∧d<yB^20∧0<d:=by
 unfold GP at h
 rw [Option.map_eq_some_iff] at h
 obtain ⟨⟨n',d'⟩,h1,h2⟩:=h
 cases h2
 exact ymG h1 (Nat.le_trans (yfM l) hl)
def yam (l:Lb):Option (Bool × Nat × Nat) :=
 if 82<l.length then none else
 match GP l with
 | some (s,n,d)=>if uY (s&&!(n==0)) n d=l then some (s&&!(n==0),n,d) else none
 | none=>none
theorem ymH (s:ByteArray) (w:World) (h:(82:Int)<s.size):Calls Tryz.prog 130 #[.string s] w (jQ none w):=by
 have zH:=yA (Res.start w)
 go_in
 go_wp2
 refine bodyPost_ret (v:=.tuple #[.agg #[.bool false,.slice none 0 0,.slice none 0 0],.bool false]) (by simp [results,Tryz.results130,go_sem]) rfl ?_
 exact ⟨zH.out.below,rfl⟩
theorem ymI (s:ByteArray) (w:World) (h:(s.size:Int)≤82) (hr:∀ W,Hid (Calls Tryz.prog 175 #[.string s] W (jQ none W))):Calls Tryz.prog 130 #[.string s] w (jQ none w):=by
 have zH:=yA (Res.start w)
 go_in
 go_wp2_with fail
 refine (hr _).out.mono ?_
 rintro e w2 ⟨hb2,rfl⟩
 have hres2:=yA ((zH.out.next hb2).next (bea w2 (.cells #[.bool false,.slice none 0 0,.slice none 0 0] 98)))
 obtain ⟨z0,z1,z2,l0,l1,l2,f0,f1,f2⟩:=hres2.out.slots
 have q3:=yA (hres2.out.put3 nl false none none 0 0 0 0).below
 clear hb2
 go_wp2
 refine bodyPost_ret (v:=.tuple #[.agg #[.bool false,.slice none 0 0,.slice none 0 0],.bool false]) (by simp [results,Tryz.results130,go_sem,l0,l1,l2]) rfl ?_
 exact ⟨q3.out,rfl⟩
structure Boxed (w W:World) (g:Nat) (sg:Bool) (u v:Value) (n d:Nat):Prop where
 res:Res w.heap.size w W
 box:W.heap[g]?=some (.cells #[.bool sg,u,v] 98 (0,0))
 top:yI W u n
 bot:yI W v d
 gt:w.heap.size<g
 sign:sg=true→0<n
theorem Boxed.next {w W W':World} {g:Nat} {sg:Bool} {u v:Value} {n d:Nat} (h:Boxed w W g sg u v n d) (hb:Be W W'):Boxed w W' g sg u v n d:=by
 have hg:g<W.heap.size:=by
  rcases Nat.lt_or_ge g W.heap.size with h1|h1
  ·exact h1
  ·have:=h.box;rw [Array.getElem?_eq_none h1] at this;cases this
 exact ⟨h.res.next hb,(hb.block g hg).trans h.box,h.top.below hb,h.bot.below hb,h.gt,h.sign⟩
theorem Boxed.start {w w2:World} {sg:Bool} {u v:Value} {n d:Nat} (hr:Res w.heap.size w w2) (hx:vM w2 (.agg #[.bool sg,u,v]) sg n d):Boxed w (w2.alloc (.cells #[.bool sg,u,v] 98)) w2.heap.size sg u v n d:=by
 obtain ⟨u',v',he,h1,h2,h3⟩:=hx
 cases he
 exact ⟨hr.next (bea _ _),zG _ _,h1.below (bea _ _),h2.below (bea _ _),by have:=hr.size;omega,h3⟩
theorem Boxed.cells {w W:World} {g:Nat} {sg:Bool} {u v:Value} {n d:Nat} (h:Boxed w W g sg u v n d):W.cell? ⟨g,0,none⟩=some (.bool sg)∧W.cell? ⟨g,1,none⟩=some u∧W.cell? ⟨g,2,none⟩=some v:=⟨zW h.box 0,zW h.box 1,zW h.box 2⟩
theorem ykX (s y:ByteArray) (sg:Bool) (n d:Nat) (w:World) (h:(s.size:Int)≤82) (hr:∀ W,Hid (Calls Tryz.prog 175 #[.string s] W fun e w'=>Be W w'∧∃ x,e=.returned (.tuple #[x,.bool true])∧vM w' x sg n d))
  (ht:∀ W x,vM W x sg n d→Be w W→Hid (Calls Tryz.prog 131 #[x] W (Rp (.string y) W))) (hne:(y.toList==s.toList)=false):Calls Tryz.prog 130 #[.string s] w (jQ none w):=by
 have zH:=yA (Res.start w)
 go_in
 go_wp2_with fail
 refine (hr _).out.mono ?_
 rintro e w2 ⟨hb2,x,rfl,hx⟩
 obtain ⟨u,v,rfl,hu,hv,hs⟩:=hx
 obtain ⟨p2,n2,k2,rfl⟩:=hu.slice
 obtain ⟨p3,n3,k3,rfl⟩:=hv.slice
 have hB:=yA (Boxed.start (zH.out.next hb2) ⟨_,_,rfl,hu,hv,hs⟩)
 have ht2:=ht (w2.alloc (.cells #[.bool sg,.slice p2 n2 k2,.slice p3 n3 k3] 98)) (.agg #[.bool sg,.slice p2 n2 k2,.slice p3 n3 k3]) ⟨_,_,rfl,hB.out.top,hB.out.bot,hs⟩ hB.out.res.below
 clear hb2 hu hv hs
 go_wp2_with fail
 refine ht2.out.mono ?_
 rintro e w4 ⟨rfl,hb4⟩
 have hB4:=yA (hB.out.next hb4)
 obtain ⟨z0,z1,z2,l0,l1,l2,f0,f1,f2⟩:=hB4.out.res.slots
 have q3:=yA (hB4.out.res.put3 nl false none none 0 0 0 0).below
 clear hb4 ht2
 go_wp2
 refine bodyPost_ret (v:=.tuple #[.agg #[.bool false,.slice none 0 0,.slice none 0 0],.bool false]) (by simp [results,Tryz.results130,go_sem,l0,l1,l2]) rfl ?_
 exact ⟨q3.out,rfl⟩
theorem ymJ (s y:ByteArray) (sg:Bool) (n d:Nat) (w:World) (h:(s.size:Int)≤82) (hr:∀ W,Hid (Calls Tryz.prog 175 #[.string s] W fun e w'=>Be W w'∧∃ x,e=.returned (.tuple #[x,.bool true])∧vM w' x sg n d))
  (ht:∀ W x,vM W x sg n d→Be w W→Hid (Calls Tryz.prog 131 #[x] W (Rp (.string y) W))) (hne:(y.toList==s.toList)=true):Calls Tryz.prog 130 #[.string s] w fun e w'=>Be w w'∧∃ x,e=.returned (.tuple #[x,.bool true])∧vM w' x sg n d:=by
 have zH:=yA (Res.start w)
 go_in
 go_wp2_with fail
 refine (hr _).out.mono ?_
 rintro e w2 ⟨hb2,x,rfl,hx⟩
 obtain ⟨u,v,rfl,hu,hv,hs⟩:=hx
 obtain ⟨p2,n2,k2,rfl⟩:=hu.slice
 obtain ⟨p3,n3,k3,rfl⟩:=hv.slice
 have hB:=yA (Boxed.start (zH.out.next hb2) ⟨_,_,rfl,hu,hv,hs⟩)
 have ht2:=ht (w2.alloc (.cells #[.bool sg,.slice p2 n2 k2,.slice p3 n3 k3] 98)) (.agg #[.bool sg,.slice p2 n2 k2,.slice p3 n3 k3]) ⟨_,_,rfl,hB.out.top,hB.out.bot,hs⟩ hB.out.res.below
 clear hb2 hu hv
 have Hs:=yA hs
 clear hs
 go_wp2_with fail
 refine ht2.out.mono ?_
 rintro e w4 ⟨rfl,hb4⟩
 have hB4:=yA (hB.out.next hb4)
 obtain ⟨z0,z1,z2,l0,l1,l2,f0,f1,f2⟩:=hB4.out.res.slots
 obtain ⟨c0,c1,c2⟩:=hB4.out.cells
 have yF:Hid (∀ W,W=(((w4.setCell ⟨w.heap.size,0,none⟩ (.bool sg)).setCell ⟨w.heap.size,1,none⟩ (.slice p2 n2 k2)).setCell ⟨w.heap.size,2,none⟩ (.slice p3 n3 k3))→Be w W∧∃ x,Ending.returned (.tuple #[.agg #[.bool sg,.slice p2 n2 k2,.slice p3 n3 k3],.bool true])=.returned (.tuple #[x,.bool true])∧vM W x sg n d):=yA (by
  rintro W rfl
  exact ⟨(hB4.out.res.put3 nl sg p2 p3 n2 k2 n3 k3).below,_,rfl,_,_,rfl,hB4.out.res.nat3 nl hB4.out.top sg p2 p3 n2 k2 n3 k3,hB4.out.res.nat3 nl hB4.out.bot sg p2 p3 n2 k2 n3 k3,Hs.out⟩)
 clear hb4 ht2
 go_wp2
 refine bodyPost_ret (v:=.tuple #[.agg #[.bool sg,.slice p2 n2 k2,.slice p3 n3 k3],.bool true]) (by simp [results,Tryz.results130,go_sem,l0,l1,l2]) rfl ?_
 exact yF.out _ rfl
theorem ymK (l:Lb) (s:ByteArray):((⟨l.toArray⟩:ByteArray).toList==s.toList)=decide (l=s.data.toList):=by
 rw [Lib.toList_data,Lib.toList_data]
 by_cases h:l=s.data.toList
 ·rw [decide_eq_true h,← h];simp
 ·rw [decide_eq_false h,beq_eq_false_iff_ne];simpa using h
def yoI (o:Option (Bool × Nat × Nat)) (w:World) (e:Ending) (w':World):Prop :=
 Be w w'∧match o with
 | some (s,n,d)=>∃ x,e=.returned (.tuple #[x,.bool true])∧vM w' x s n d
 | none=>e=.returned (.tuple #[.agg #[.bool false,.slice none 0 0,.slice none 0 0],.bool false])
theorem yhu (s:ByteArray) (w:World) (htab:Tab w):Calls Tryz.prog 130 #[.string s] w (yoI (yam s.data.toList) w):=by
 have hl:s.data.toList.length=s.size:=by simp
 unfold yam
 by_cases h82:82<s.size
 ·rw [if_pos (by omega)]
  exact (ymH s w (by omega)).mono fun _ _ h=>h
 ·rw [if_neg (by omega)]
  have h82':(s.size:Int)≤82:=by omega
  have hs:s.size≤90000:=by omega
  have ylQ:∀ W,Calls Tryz.prog 175 #[.string s] W (jQ (GP s.data.toList) W):=fun W=>yrH s W hs
  cases hr:GP s.data.toList with
  | none =>
   rw [hr] at ylQ
   exact (ymI s w h82' fun W=>yA (ylQ W)).mono fun _ _ h=>h
  | some t =>
   obtain ⟨sg,n,d⟩:=t
   obtain ⟨b1,b2,b3⟩:=yj3 hr (by omega)
   rw [hr] at ylQ
   have hrd:∀ W,Hid (Calls Tryz.prog 175 #[.string s] W fun e w'=>Be W w'∧∃ x,e=.returned (.tuple #[x,.bool true])∧vM w' x (sg&&!(n==0)) n d):=fun W=>yA (ylQ W)
   have htx:∀ W x,vM W x (sg&&!(n==0)) n d→Be w W→Hid (Calls Tryz.prog 131 #[x] W (Rp (.string ⟨(uY (sg&&!(n==0)) n d).toArray⟩) W)):=fun W x hx hb =>
    yA (yoH x _ n d 20 W (by omega) b1 b2 b3 hx (htab.below hb))
   have he:=ymK (uY (sg&&!(n==0)) n d) s
   by_cases hq:uY (sg&&!(n==0)) n d=s.data.toList
   ·rw [decide_eq_true hq] at he
    simp only [hq,if_true]
    exact (ymJ s _ _ n d w h82' hrd htx he).mono fun _ _ h=>h
   ·rw [decide_eq_false hq] at he
    simp only [hq,if_false]
    exact (ykX s _ _ n d w h82' hrd htx he).mono fun _ _ h=>h
def ygF (l:Lb):Bool:=(yam l).isSome
theorem yhv (s:ByteArray) (w:World) (htab:Tab w):Calls Tryz.prog 92 #[.string s] w (Rp (.bool (ygF s.data.toList)) w):=by
 have hr:Hid (Calls Tryz.prog 130 #[.string s] w fun e w'=>Be w w'∧∃ b p n c q m d,e=.returned (.tuple #[.agg #[.bool b,.slice p n c,.slice q m d],.bool (ygF s.data.toList)])):=yA (by
  refine (yhu s w htab).mono fun e w' h=>⟨h.1,?_⟩
  have h2:=h.2
  unfold ygF
  cases hq:yam s.data.toList with
  | none=>rw [hq] at h2;exact ⟨_,_,_,_,_,_,_,h2⟩
  | some t =>
   rw [hq] at h2
   obtain ⟨x,rfl,u,v,rfl,hu,hv,-⟩:=h2
   obtain ⟨p2,n2,k2,rfl⟩:=hu.slice
   obtain ⟨p3,n3,k3,rfl⟩:=hv.slice
   exact ⟨_,_,_,_,_,_,_,rfl⟩)
 clear htab
 generalize ygF s.data.toList=f at hr ⊢
 go_in
 go_wp2_with fail
 refine hr.out.mono ?_
 rintro e w2 ⟨hb2,b,p,n,c,q,m,d,rfl⟩
 have hbw:=yA (hb2.trans ((bea w2 (.cells #[.bool b,.slice p n c,.slice q m d] 98)).mono hb2.size))
 clear hb2
 go_wp2
 go_ret
 exact ⟨rfl,hbw.out⟩
end
section
open Go.Lib Big
theorem yeV {l:Lb} {n d:Nat} (h:uQ l=some (n,d)):0<d:=by
 unfold uQ at h
 split at h
 ·split at h
  ·simp only [Option.some.injEq,Prod.mk.injEq] at h
   obtain ⟨-,rfl⟩:=h
   exact Nat.pow_pos (by omega)
  ·cases h
 ·split at h
  ·split at h
   ·rename_i hd
    rw [Bool.and_eq_true,Bool.and_eq_true] at hd
    simp only [Option.some.injEq,Prod.mk.injEq] at h
    obtain ⟨-,rfl⟩:=h
    have:=hd.2
    simp at this;omega
   ·cases h
  ·split at h
   ·simp only [Option.some.injEq,Prod.mk.injEq] at h
    obtain ⟨-,rfl⟩:=h
    omega
   ·cases h
theorem yd3 {s:Bool} {a b:Nat} (hb:0<b) (hs:s=true→0<a):decide ((yX s a b).num<0)=s∧(yX s a b).num.natAbs=a/Nat.gcd a b∧(yX s a b).den=b/Nat.gcd a b:=by
 have hg:0<Nat.gcd a b:=Nat.gcd_pos_of_pos_right _ hb
 have e:yX s a b=mkRat (if s then -(a:Int) else a) b:=by
  rw [Rat.mkRat_eq_div]
  unfold yX
  cases s<;>simp<;>rfl
 have hn:(mkRat (if s then -(a:Int) else a) b).num=(if s then -(a:Int) else a)/(Nat.gcd a b:Nat):=by
  rw [Rat.num_mkRat,Nat.gcd_comm]
  cases s<;>simp [Nat.ne_of_gt hb]
 have hd:(mkRat (if s then -(a:Int) else a) b).den=b/Nat.gcd a b:=by
  rw [Rat.den_mkRat,Nat.gcd_comm]
  cases s<;>simp [Nat.ne_of_gt hb]
 rw [e,hn,hd]
 refine ⟨?_,?_,rfl⟩
 ·cases s
  ·simp only [Bool.false_eq_true,if_false]
   rw [decide_eq_false]
   have:(0:Int)≤(a:Int)/(Nat.gcd a b:Nat):=Int.ediv_nonneg (by omega) (by omega)
   omega
  ·simp only [if_true]
   rw [decide_eq_true]
   exact Int.ediv_neg_of_neg_of_pos (by have:=hs rfl;omega) (by omega)
 ·cases s
  ·simp only [Bool.false_eq_true,if_false]
   norm_cast
  ·simp only [if_true]
   rw [Int.neg_ediv_of_dvd (by exact_mod_cast Nat.gcd_dvd_left a b),Int.natAbs_neg]
   norm_cast
def txt (q:Rat):Lb:=uY (decide (q.num<0)) q.num.natAbs q.den
theorem yeW {s:Bool} {a b:Nat} (hb:0<b) (hs:s=true→0<a):uY s a b=txt (yX s a b):=by
 obtain ⟨h1,h2,h3⟩:=yd3 hb hs
 unfold txt
 rw [h1,h2,h3]
 have hg:0<Nat.gcd a b:=Nat.gcd_pos_of_pos_right _ hb
 have hc:Nat.gcd (a/Nat.gcd a b) (b/Nat.gcd a b)=1:=Nat.gcd_div_gcd_div_gcd_of_pos_right hb
 unfold uY ycZ
 rw [hc,Nat.div_one,Nat.div_one]
def num (l:Lb):Option Rat:=(yam l).map fun t=>yX t.1 t.2.1 t.2.2
theorem ymL {l:Lb} {s:Bool} {n d:Nat} (h:yam l=some (s,n,d)):0<d∧(s=true→0<n)∧uY s n d=l:=by
 unfold yam at h
 split at h
 ·cases h
 ·split at h
  ·rename_i s0 n0 d0 hr
   split at h
   ·rename_i ht
    cases h
    refine ⟨?_,by intro h;simp at h;omega,ht⟩
    unfold GP at hr
    rw [Option.map_eq_some_iff] at hr
    obtain ⟨⟨a,b⟩,h1,h2⟩:=hr
    cases h2
    exact yeV h1
   ·cases h
  ·cases h
theorem ynu {l:Lb} {q:Rat} (h:num l=some q):txt q=l:=by
 unfold num at h
 rw [Option.map_eq_some_iff] at h
 obtain ⟨⟨s,n,d⟩,h1,rfl⟩:=h
 obtain ⟨h2,h3,h4⟩:=ymL h1
 rw [← yeW h2 h3];exact h4
def wrote (s:Bool) (n d:Nat):Lb:=(if s then [45] else [])++decDigits n++(if d=1 then [] else 47::decDigits d)
theorem yfs (q:Rat):txt q=if nDigits q.num.natAbs≤40∧nDigits q.den≤40 then wrote (decide (q.num<0)) q.num.natAbs q.den else []:=by
 unfold txt uY ycZ
 have hc:Nat.gcd q.num.natAbs q.den=1:=q.reduced
 rw [hc,Nat.div_one,Nat.div_one]
 split<;>rfl
theorem yh9:num []=none:=by decide
end
section
open Go.RowKit Big
open Go.Lib
theorem ybX {n:Nat} (h:n<10):(UInt8.ofNat (48+n)).toNat=48+n:=by
 rw [UInt8.toNat_ofNat'];omega
theorem yvh (M:Nat) (hM:M≤18446744073709551615) (u:Nat):∀ r,parseUintM M 0 (decDigits u++r)=if u≤M then parseUintM M u r else .range:=by
 induction u using Nat.strongRecOn with
 | _ u ih =>
  intro r
  by_cases h:u<10
  ·rw [decDigits_one h,List.singleton_append,parseUintM,ybX h]
   rw [if_pos (by omega),if_neg (by omega)]
   have e:0*10+(48+u-48)=u:=by omega
   rw [e]
   by_cases hu:u≤M
   ·rw [if_neg (by omega),if_pos hu]
   ·rw [if_pos (by omega),if_neg hu]
  ·rw [decDigits,dif_neg h,List.append_assoc,ih (u/10) (by omega),List.singleton_append,parseUintM,ybX (Nat.mod_lt _ (by omega))]
   have hd:u/10*10+(48+u%10-48)=u:=by omega
   rw [hd]
   by_cases h1:u/10≤M
   ·rw [if_pos h1,if_pos (by omega)]
    by_cases h2:1844674407370955162≤u/10
    ·rw [if_pos h2,if_neg (by omega)]
    ·rw [if_neg h2]
     by_cases hu:u≤M
     ·rw [if_neg (by omega),if_pos hu]
     ·rw [if_pos (by omega),if_neg hu]
   ·rw [if_neg h1,if_neg (by omega)]
theorem ytM (M u:Nat) (r:Lb):parseUintM M u (47::r)=parseUintB 8 []:=by
 rw [parseUintM,if_neg (by decide)];rfl
theorem yeq (u:Nat):∃ c t,decDigits u=c::t∧48≤c.toNat∧c.toNat≤57:=by
 induction u using Nat.strongRecOn with
 | _ u ih =>
  by_cases h:u<10
  ·exact ⟨_,[],decDigits_one h,by rw [ybX h];omega,by rw [ybX h];omega⟩
  ·obtain ⟨c,t,e,h1,h2⟩:=ih (u/10) (by omega)
   refine ⟨c,t++[UInt8.ofNat (48+u%10)],?_,h1,h2⟩
   rw [decDigits,dif_neg h,e,List.cons_append]
theorem ynv {B:Nat} (hM:2^B-1≤18446744073709551615) (u:Nat) (r:Lb):parseUintB B (decDigits u++r)=if u≤2^B-1 then parseUintM (2^B-1) u r else .range:=by
 obtain ⟨c,t,e,-,-⟩:=yeq u
 unfold parseUintB
 rw [if_neg (by rw [e];simp),yvh _ hM]
theorem ytN {B:Nat} (hM:2^B-1≤18446744073709551615) (s:Bool) (u:Nat) (r:Lb):parseIntB B ((if s then [45] else [])++decDigits u++r) =
  (if s then signedC (2^(B-1)) else signlessC (2^(B-1))) (if u≤2^B-1 then parseUintM (2^B-1) u r else .range):=by
 cases s
 ·obtain ⟨c,t,e,h1,h2⟩:=yeq u
  have:=parseIntB_plain B c (t++r) (by omega) (by omega)
  rw [← List.cons_append,← e,ynv hM] at this
  exact this
 ·have:=parseIntB_minus B (decDigits u++r)
  rw [ynv hM] at this
  exact this
def uX (B:Nat) (l:Lb):Option Int:=match num l with
 | none=>none
 | some q=>if q.den=1∧-((2^(B-1):Nat):Int)≤q.num∧q.num<((2^(B-1):Nat):Int) then some q.num else none
theorem yer {l:Lb} {q:Rat} (h:num l=some q):l=(if decide (q.num<0) then [45] else [])++decDigits q.num.natAbs++(if q.den=1 then [] else 47::decDigits q.den):=by
 have h1:=ynu h
 rw [yfs] at h1
 split at h1
 ·exact h1.symm
 ·rw [← h1,yh9] at h;cases h
theorem yft {B:Nat} {l:Lb} {q:Rat} (hM:2^B-1≤18446744073709551615) (hB:1≤B) (h:num l=some q):match uX B l with
  | some v=>parseIntB B l=.ok v
  | none=>parseIntB B l=parseIntB 64 []∨parseIntB B l=.range:=by
 have hp:2^B=2^(B-1)*2:=by rw [← Nat.pow_succ];congr 1;omega
 have hp0:0<2^(B-1):=Nat.pow_pos (by omega)
 have hl:=yer h
 have ht:=ytN hM (decide (q.num<0)) q.num.natAbs (if q.den=1 then [] else 47::decDigits q.den)
 rw [← hl] at ht
 rw [ht]
 unfold uX
 rw [h]
 simp only []
 generalize 2^B=C at *
 generalize 2^(B-1)=D at *
 by_cases hd:q.den=1
 ·simp only [hd,if_true,true_and]
  by_cases hs:q.num<0
  ·simp only [hs,decide_true,if_true]
   by_cases hr:q.num.natAbs≤C-1
   ·simp only [hr,if_true,parseUintM,signedC]
    by_cases hc:D<q.num.natAbs
    ·rw [if_neg (by omega)];simp [hc]
    ·rw [if_pos (by omega)];simp only [hc,if_false]
     congr 1;omega
   ·rw [if_neg (by omega)];simp [hr,signedC]
  ·simp only [hs,decide_false,if_false,Bool.false_eq_true]
   by_cases hr:q.num.natAbs≤C-1
   ·simp only [hr,if_true,parseUintM,signlessC]
    by_cases hc:D≤q.num.natAbs
    ·rw [if_neg (by omega)];simp [hc]
    ·rw [if_pos (by omega)];simp only [hc,if_false]
     congr 1;omega
   ·rw [if_neg (by omega)];simp [hr,signlessC]
 ·simp only [hd,if_false,false_and]
  by_cases hr:q.num.natAbs≤C-1
  ·simp only [hr,if_true,ytM]
   by_cases hs:q.num<0<;>simp [hs,signedC,signlessC]<;>exact Or.inl rfl
  ·simp only [hr,if_false]
   by_cases hs:q.num<0<;>simp [hs,signedC,signlessC]<;>exact Or.inl rfl
end
end Go.Proofs.YtgepehlpjpccaaaGreatDoor
