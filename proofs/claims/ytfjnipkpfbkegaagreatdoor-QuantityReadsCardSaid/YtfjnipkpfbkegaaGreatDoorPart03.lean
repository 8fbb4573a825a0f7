/- Contracts. -/
import Derived.Test.YtfjnipkpfbkegaaGreatDoorPart02
import Derived.StillTailTactics
set_option maxHeartbeats 1600000
set_option maxRecDepth 100000
namespace Go.Proofs.YtfjnipkpfbkegaaGreatDoor
open Go.RowKit Big
def yqL (hi lo y:Nat) (w:World) (e:Ending) (w':World):Prop :=
 ∃ q r:Nat,e=.returned (.tuple #[.int .u64 (q:Int),.int .u64 (r:Int)])∧w=w'∧q*y+r=hi*yC+lo∧r<y
theorem yk9 (hi lo y s Y y1 y0 H Lq U N n1 n0 q0 r0 Q1 R1 q0' r0' Q0 R0 rem:Nat) (w:World) (h0:0<hi) (hy:hi<y) (hyB:(y:Int)≤18446744073709551615) (_hloB:(lo:Int)≤18446744073709551615) (hs:s<64)
  (hLZ:Hid ((64-(Lib.bitLen y:Int))=s))
  (hY:Hid (IntKind.u64.wrap ((y:Int)*2^s)=(Y:Int))) (hy1:Hid ((Y:Int)/4294967296=y1)) (hy0:Hid (bits .and .u64 (Y:Int) 4294967295=y0))
  (hH:Hid (IntKind.u64.wrap ((hi:Int)*2^s)=(H:Int))) (hL:Hid ((lo:Int)/2^(64-s)=Lq)) (hor:Hid (bits .or .u64 (H:Int) (Lq:Int)=U))
  (hN:Hid (IntKind.u64.wrap ((lo:Int)*2^s)=(N:Int))) (hn1:Hid ((N:Int)/4294967296=n1)) (hn0:Hid (bits .and .u64 (N:Int) 4294967295=n0))
  (hq0:Hid ((U:Int)/y1=q0)) (hqy:(q0:Int)*y1≤18446744073709551615) (hr0:Hid ((U:Int)-q0*y1=r0)) (_hUq:(q0:Int)*y1≤U)
  (hR1:Hid (IntKind.u64.wrap (IntKind.u64.wrap (IntKind.u64.wrap ((U:Int)*4294967296)+n1)-IntKind.u64.wrap ((Q1:Int)*Y))=(R1:Int)))
  (hq0':Hid ((R1:Int)/y1=q0')) (hqy':(q0':Int)*y1≤18446744073709551615) (hr0':Hid ((R1:Int)-q0'*y1=r0')) (hUq':(q0':Int)*y1≤R1)
  (hR0:Hid (IntKind.u64.wrap (IntKind.u64.wrap (IntKind.u64.wrap ((R1:Int)*4294967296)+n0)-IntKind.u64.wrap ((Q0:Int)*Y))=(R0:Int))) (yhj:Hid ((R0:Int)/2^s=rem))
  (b1:(1:Int)≤y1) (b2:(y1:Int)≤4294967295) (b3:(y0:Int)≤4294967295) (b4:(n1:Int)≤4294967295) (b5:(n0:Int)≤4294967295) (_b6:(U:Int)≤18446744073709551615) (b7:(R1:Int)≤18446744073709551615)
  (b8:(r0:Int)≤4294967295) (b9:(r0':Int)≤4294967295) (b10:(Q1:Int)≤4294967295) (b11:(Q0:Int)≤4294967295)
  (b12:(q0:Int)≤4294967297) (b13:(q0':Int)≤4294967297)
  (g1:Hid (Guess 4294967296 U y1 y0 n1 q0 r0)) (g2:Hid (Guess 4294967296 R1 y1 y0 n0 q0' r0')) (e1:Hid ((U*4294967296+n1)/(y1*4294967296+y0)=Q1)) (e2:Hid ((R1*4294967296+n0)/(y1*4294967296+y0)=Q0))
  (c1:Hid (U<y1*4294967296+y0)) (c2:Hid (R1<y1*4294967296+y0)) (QQ:Nat) (hQQ:Hid (IntKind.u64.wrap (IntKind.u64.wrap ((Q1:Int)*4294967296)+Q0)=QQ)) (yE:Hid (QQ*y+rem=hi*yC+lo∧rem<y)) :
  Calls Tryz.prog 154 #[.int .u64 hi,.int .u64 lo,.int .u64 y] w (yqL hi lo y w):=by
 go_enter Tryz.func154,Tryz.ntmps154
 go_wp2_with fail
 refine (Go.Proofs.Tryz.bits_LeadingZeros64 _ _ (by omega) (by omega)).mono ?_
 rintro e w' ⟨rfl,rfl⟩
 rw [show (64-(Lib.bitLen (y:Int).toNat:Int))=s from hLZ.out]
 have a1:=hY.out
 have a2:=hy1.out
 have a3:=hy0.out
 have a4:=hH.out
 have a5:=hL.out
 have a6:=hor.out
 have a7:=hN.out
 have a8:=hn1.out
 have a9:=hn0.out
 have a10:=hq0.out
 have hn0':0≤(q0:Int)*y1:=Int.mul_nonneg (by omega) (by omega)
 have hn1':0≤(q0':Int)*y1:=Int.mul_nonneg (by omega) (by omega)
 have a11:=hr0.out
 go_wp2_with fail
 have HB:Hid ((1≤y1∧y1≤4294967295)∧y0≤4294967295∧n1≤4294967295∧n0≤4294967295∧Q1≤4294967295∧Q0≤4294967295∧r0≤4294967295∧r0'≤4294967295∧q0≤4294967297∧q0'≤4294967297):=yA (by omega)
 have HQ:Hid ((0≤(q0':Int)*y1∧(q0':Int)*y1≤18446744073709551615∧(q0':Int)*y1≤R1)∧(R1:Int)≤18446744073709551615∧(1:Int)≤y1∧(q0':Int)≤4294967297):=yA (by omega)
 clear a1 a2 a3 a4 a5 a6 a7 a8 a9 a10 a11 hqy _hUq hqy' hUq' b1 b2 b3 b4 b5 _b6 b7 b8 b9 b10 b11 b12 b13 hyB _hloB h0 hy hn0' hn1'
 go_loop [15,16] (fun qv rv=>∃ q r:Nat,qv=.int .u64 q∧rv=.int .u64 r∧Hid (Guess 4294967296 U y1 y0 n1 q r∧r≤4294967295)) (fun qv _=>(intOf qv).toNat)
 case atStart=>exact ⟨q0,r0,rfl,rfl,yA ⟨g1.out,by have:=HB.out;omega⟩⟩
 case round =>
  obtain ⟨q,r,rfl,rfl,hgr⟩:=hrel
  have ya5:Hid ((4294967296≤q∨4294967296*r+n1<q*y0))∨Hid (q=Q1∧q≤4294967295∧q*y0≤4294967296*r+n1):=by
   by_cases ht:4294967296≤q∨4294967296*r+n1<q*y0
   ·exact .inl ht
   ·refine .inr ⟨?_,by omega,by omega⟩
    rw [hgr.out.1.done (Nat.lt_of_le_of_lt (Nat.zero_le _) c1.out) (by omega)]
    exact e1.out
  obtain ⟨A,hA,eA⟩:∃ A:Nat,Hid (A=q*y0)∧IntKind.u64.wrap ((q:Int)*y0)=A:=⟨_,yA rfl,by
   rw [← Int.natCast_mul,vE _ (by
    have h1:q*y0≤4294967297*4294967295:=Nat.mul_le_mul hgr.out.1.le HB.out.2.1
    rw [yQ];omega)]⟩
  obtain ⟨C,hC,eC⟩:∃ C:Nat,Hid (C=4294967296*r+n1)∧IntKind.u64.wrap (IntKind.u64.wrap (4294967296*(r:Int))+n1)=C:=⟨4294967296*r+n1,yA rfl,by
   have h1:=hgr.out.2
   have h2:=HB.out
   rw [show (4294967296:Int)*r=((4294967296*r:Nat):Int) from by omega,vE _ (by rw [yQ];omega),← Int.natCast_add,vE _ (by rw [yQ];omega)]⟩
  obtain ⟨r',hr',er'⟩:∃ r':Nat,Hid (r'=r+y1)∧IntKind.u64.wrap ((r:Int)+y1)=r':=⟨r+y1,yA rfl,by
   have h1:=hgr.out.2
   have h2:=HB.out
   rw [← Int.natCast_add,vE _ (by rw [yQ];omega)]⟩
  rcases ya5 with ht|ya9
  ·obtain ⟨q',hq',eq'⟩:∃ q':Nat,Hid (q=q'+1∧q'≤4294967296∧Guess 4294967296 U y1 y0 n1 q' r')∧IntKind.u64.wrap ((q:Int)-1)=q':=by
    obtain ⟨h1,h2,h3⟩:=hgr.out.1.lower c1.out (by have:=HB.out;omega) ht.out
    refine ⟨q-1,yA ⟨by omega,h3,by rw [hr'.out];exact h1⟩,?_⟩
    rw [show (q:Int)-1=((q-1:Nat):Int) from by omega,vE _ (by rw [yQ];omega)]
   have yba:Hid ((intOf (.int .u64 (q':Int))).toNat<(intOf (.int .u64 (q:Int))).toNat):=by
    have:=hq'.out.1;show _<_;simp [intOf];omega
   have yaH:(Hid (4294967296≤q)∧decide ((4294967296:Int)≤q)=true)∨(decide ((4294967296:Int)≤q)=false∧decide (C<A)=true):=by
    by_cases h1:4294967296≤q
    ·exact .inl ⟨yA h1,decide_eq_true (by omega)⟩
    ·refine .inr ⟨decide_eq_false (by omega),decide_eq_true ?_⟩
     have:=ht.out.resolve_left h1
     rw [hC.out,hA.out];omega
   have yn1:(Hid (r'≤4294967295)∧decide ((4294967296:Int)≤r')=false)∨(Hid (q'=Q1)∧decide ((4294967296:Int)≤r')=true):=by
    by_cases h1:4294967296≤r'
    ·refine .inr ⟨?_,decide_eq_true (by omega)⟩
     show _=_
     rw [hq'.out.2.2.done_break (Nat.lt_of_le_of_lt (Nat.zero_le _) c1.out) (by have:=HB.out;omega) hq'.out.2.1 h1]
     exact e1.out
    ·exact .inl ⟨yA (by omega),decide_eq_false (by omega)⟩
   clear ht
   rcases yn1 with ⟨hb1,eb⟩|⟨hb1,eb⟩
   ·rcases yaH with ⟨_,ef⟩|⟨ef,ef2⟩
    all_goals
     go_wp2
     go_round
     case rel=>exact ⟨q',r',rfl,rfl,yA ⟨hq'.out.2.2,hb1.out⟩⟩
     case measure=>exact yba.out
   ·rw [hb1.out] at eq' hq' yba
    clear hb1
    have k1:=hR1.out
    have k2:=hq0'.out
    have k3:=hr0'.out
    obtain ⟨⟨k4,k5,k6⟩,k7,k8,k9⟩:=HQ.out
    rcases yaH with ⟨_,ef⟩|⟨ef,ef2⟩
    all_goals
     go_wp2_with fail
     clear eq' er' eA eC eb
     try clear ef
     try clear ef2
     clear k1 k2 k3 k4 k5 k6 k7 k8 k9
     go_loop [18,16] (fun qv rv=>∃ q r:Nat,qv=.int .u64 q∧rv=.int .u64 r∧Hid (Guess 4294967296 R1 y1 y0 n0 q r∧r≤4294967295)) (fun qv _=>(intOf qv).toNat)
     case atStart=>exact ⟨q0',r0',rfl,rfl,yA ⟨g2.out,by have:=HB.out;omega⟩⟩
     case round =>
      obtain ⟨q,r,rfl,rfl,hgr⟩:=hrel
      have ya5:Hid ((4294967296≤q∨4294967296*r+n0<q*y0))∨Hid (q=Q0∧q≤4294967295∧q*y0≤4294967296*r+n0):=by
       by_cases ht:4294967296≤q∨4294967296*r+n0<q*y0
       ·exact .inl ht
       ·refine .inr ⟨?_,by omega,by omega⟩
        rw [hgr.out.1.done (Nat.lt_of_le_of_lt (Nat.zero_le _) c2.out) (by omega)]
        exact e2.out
      obtain ⟨A,hA,eA⟩:∃ A:Nat,Hid (A=q*y0)∧IntKind.u64.wrap ((q:Int)*y0)=A:=⟨_,yA rfl,by
       rw [← Int.natCast_mul,vE _ (by
        have h1:q*y0≤4294967297*4294967295:=Nat.mul_le_mul hgr.out.1.le HB.out.2.1
        rw [yQ];omega)]⟩
      obtain ⟨C,hC,eC⟩:∃ C:Nat,Hid (C=4294967296*r+n0)∧IntKind.u64.wrap (IntKind.u64.wrap (4294967296*(r:Int))+n0)=C:=⟨4294967296*r+n0,yA rfl,by
       have h1:=hgr.out.2
       have h2:=HB.out
       rw [show (4294967296:Int)*r=((4294967296*r:Nat):Int) from by omega,vE _ (by rw [yQ];omega),← Int.natCast_add,vE _ (by rw [yQ];omega)]⟩
      obtain ⟨r',hr',er'⟩:∃ r':Nat,Hid (r'=r+y1)∧IntKind.u64.wrap ((r:Int)+y1)=r':=⟨r+y1,yA rfl,by
       have h1:=hgr.out.2
       have h2:=HB.out
       rw [← Int.natCast_add,vE _ (by rw [yQ];omega)]⟩
      rcases ya5 with ht|ya9
      ·obtain ⟨q',hq',eq'⟩:∃ q':Nat,Hid (q=q'+1∧q'≤4294967296∧Guess 4294967296 R1 y1 y0 n0 q' r')∧IntKind.u64.wrap ((q:Int)-1)=q':=by
        obtain ⟨h1,h2,h3⟩:=hgr.out.1.lower c2.out (by have:=HB.out;omega) ht.out
        refine ⟨q-1,yA ⟨by omega,h3,by rw [hr'.out];exact h1⟩,?_⟩
        rw [show (q:Int)-1=((q-1:Nat):Int) from by omega,vE _ (by rw [yQ];omega)]
       have yba:Hid ((intOf (.int .u64 (q':Int))).toNat<(intOf (.int .u64 (q:Int))).toNat):=by
        have:=hq'.out.1;show _<_;simp [intOf];omega
       have yaH:(Hid (4294967296≤q)∧decide ((4294967296:Int)≤q)=true)∨(decide ((4294967296:Int)≤q)=false∧decide (C<A)=true):=by
        by_cases h1:4294967296≤q
        ·exact .inl ⟨yA h1,decide_eq_true (by omega)⟩
        ·refine .inr ⟨decide_eq_false (by omega),decide_eq_true ?_⟩
         have:=ht.out.resolve_left h1
         rw [hC.out,hA.out];omega
       have yn1:(Hid (r'≤4294967295)∧decide ((4294967296:Int)≤r')=false)∨(Hid (q'=Q0)∧decide ((4294967296:Int)≤r')=true):=by
        by_cases h1:4294967296≤r'
        ·refine .inr ⟨?_,decide_eq_true (by omega)⟩
         show _=_
         rw [hq'.out.2.2.done_break (Nat.lt_of_le_of_lt (Nat.zero_le _) c2.out) (by have:=HB.out;omega) hq'.out.2.1 h1]
         exact e2.out
        ·exact .inl ⟨yA (by omega),decide_eq_false (by omega)⟩
       clear ht
       rcases yn1 with ⟨hb1,eb⟩|⟨hb1,eb⟩
       ·rcases yaH with ⟨_,ef⟩|⟨ef,ef2⟩
        all_goals
         go_wp2
         go_round
         case rel=>exact ⟨q',r',rfl,rfl,yA ⟨hq'.out.2.2,hb1.out⟩⟩
         case measure=>exact yba.out
       ·rw [hb1.out] at eq' hq' yba
        clear hb1
        have m1:=hR0.out
        have m2:=yhj.out
        have m3:=hQQ.out
        rcases yaH with ⟨_,ef⟩|⟨ef,ef2⟩
        all_goals
         go_wp2_with fail
         clear eq' er' eA eC eb
         try clear ef
         try clear ef2
         go_ret2
         exact ⟨QQ,rem,rfl,rfl,yE.out⟩
      ·have yaH:decide ((4294967296:Int)≤q)=false∧decide (C<A)=false:=by
        have h1:=ya9.out
        exact ⟨decide_eq_false (by omega),decide_eq_false (by rw [hC.out,hA.out];omega)⟩
       obtain ⟨ef,ef2⟩:=yaH
       have Hq:=ya9.out.1
       clear ya9 er'
       subst Hq
       have m1:=hR0.out
       have m2:=yhj.out
       have m3:=hQQ.out
       go_wp2_with fail
       clear eA eC ef ef2
       go_ret2
       exact ⟨QQ,rem,rfl,rfl,yE.out⟩
  ·have yaH:decide ((4294967296:Int)≤q)=false∧decide (C<A)=false:=by
    have h1:=ya9.out
    exact ⟨decide_eq_false (by omega),decide_eq_false (by rw [hC.out,hA.out];omega)⟩
   obtain ⟨ef,ef2⟩:=yaH
   have Hq:=ya9.out.1
   clear ya9 er'
   subst Hq
   have k1:=hR1.out
   have k2:=hq0'.out
   have k3:=hr0'.out
   obtain ⟨⟨k4,k5,k6⟩,k7,k8,k9⟩:=HQ.out
   go_wp2_with fail
   clear eA eC ef ef2
   clear k1 k2 k3 k4 k5 k6 k7 k8 k9
   go_loop [18,16] (fun qv rv=>∃ q r:Nat,qv=.int .u64 q∧rv=.int .u64 r∧Hid (Guess 4294967296 R1 y1 y0 n0 q r∧r≤4294967295)) (fun qv _=>(intOf qv).toNat)
   case atStart=>exact ⟨q0',r0',rfl,rfl,yA ⟨g2.out,by have:=HB.out;omega⟩⟩
   case round =>
    obtain ⟨q,r,rfl,rfl,hgr⟩:=hrel
    have ya5:Hid ((4294967296≤q∨4294967296*r+n0<q*y0))∨Hid (q=Q0∧q≤4294967295∧q*y0≤4294967296*r+n0):=by
     by_cases ht:4294967296≤q∨4294967296*r+n0<q*y0
     ·exact .inl ht
     ·refine .inr ⟨?_,by omega,by omega⟩
      rw [hgr.out.1.done (Nat.lt_of_le_of_lt (Nat.zero_le _) c2.out) (by omega)]
      exact e2.out
    obtain ⟨A,hA,eA⟩:∃ A:Nat,Hid (A=q*y0)∧IntKind.u64.wrap ((q:Int)*y0)=A:=⟨_,yA rfl,by
     rw [← Int.natCast_mul,vE _ (by
      have h1:q*y0≤4294967297*4294967295:=Nat.mul_le_mul hgr.out.1.le HB.out.2.1
      rw [yQ];omega)]⟩
    obtain ⟨C,hC,eC⟩:∃ C:Nat,Hid (C=4294967296*r+n0)∧IntKind.u64.wrap (IntKind.u64.wrap (4294967296*(r:Int))+n0)=C:=⟨4294967296*r+n0,yA rfl,by
     have h1:=hgr.out.2
     have h2:=HB.out
     rw [show (4294967296:Int)*r=((4294967296*r:Nat):Int) from by omega,vE _ (by rw [yQ];omega),← Int.natCast_add,vE _ (by rw [yQ];omega)]⟩
    obtain ⟨r',hr',er'⟩:∃ r':Nat,Hid (r'=r+y1)∧IntKind.u64.wrap ((r:Int)+y1)=r':=⟨r+y1,yA rfl,by
     have h1:=hgr.out.2
     have h2:=HB.out
     rw [← Int.natCast_add,vE _ (by rw [yQ];omega)]⟩
    rcases ya5 with ht|ya9
    ·obtain ⟨q',hq',eq'⟩:∃ q':Nat,Hid (q=q'+1∧q'≤4294967296∧Guess 4294967296 R1 y1 y0 n0 q' r')∧IntKind.u64.wrap ((q:Int)-1)=q':=by
      obtain ⟨h1,h2,h3⟩:=hgr.out.1.lower c2.out (by have:=HB.out;omega) ht.out
      refine ⟨q-1,yA ⟨by omega,h3,by rw [hr'.out];exact h1⟩,?_⟩
      rw [show (q:Int)-1=((q-1:Nat):Int) from by omega,vE _ (by rw [yQ];omega)]
     have yba:Hid ((intOf (.int .u64 (q':Int))).toNat<(intOf (.int .u64 (q:Int))).toNat):=by
      have:=hq'.out.1;show _<_;simp [intOf];omega
     have yaH:(Hid (4294967296≤q)∧decide ((4294967296:Int)≤q)=true)∨(decide ((4294967296:Int)≤q)=false∧decide (C<A)=true):=by
      by_cases h1:4294967296≤q
      ·exact .inl ⟨yA h1,decide_eq_true (by omega)⟩
      ·refine .inr ⟨decide_eq_false (by omega),decide_eq_true ?_⟩
       have:=ht.out.resolve_left h1
       rw [hC.out,hA.out];omega
     have yn1:(Hid (r'≤4294967295)∧decide ((4294967296:Int)≤r')=false)∨(Hid (q'=Q0)∧decide ((4294967296:Int)≤r')=true):=by
      by_cases h1:4294967296≤r'
      ·refine .inr ⟨?_,decide_eq_true (by omega)⟩
       show _=_
       rw [hq'.out.2.2.done_break (Nat.lt_of_le_of_lt (Nat.zero_le _) c2.out) (by have:=HB.out;omega) hq'.out.2.1 h1]
       exact e2.out
      ·exact .inl ⟨yA (by omega),decide_eq_false (by omega)⟩
     clear ht
     rcases yn1 with ⟨hb1,eb⟩|⟨hb1,eb⟩
     ·rcases yaH with ⟨_,ef⟩|⟨ef,ef2⟩
      all_goals
       go_wp2
       go_round
       case rel=>exact ⟨q',r',rfl,rfl,yA ⟨hq'.out.2.2,hb1.out⟩⟩
       case measure=>exact yba.out
     ·rw [hb1.out] at eq' hq' yba
      clear hb1
      have m1:=hR0.out
      have m2:=yhj.out
      have m3:=hQQ.out
      rcases yaH with ⟨_,ef⟩|⟨ef,ef2⟩
      all_goals
       go_wp2_with fail
       clear eq' er' eA eC eb
       try clear ef
       try clear ef2
       go_ret2
       exact ⟨QQ,rem,rfl,rfl,yE.out⟩
    ·have yaH:decide ((4294967296:Int)≤q)=false∧decide (C<A)=false:=by
      have h1:=ya9.out
      exact ⟨decide_eq_false (by omega),decide_eq_false (by rw [hC.out,hA.out];omega)⟩
     obtain ⟨ef,ef2⟩:=yaH
     have Hq:=ya9.out.1
     clear ya9 er'
     subst Hq
     have m1:=hR0.out
     have m2:=yhj.out
     have m3:=hQQ.out
     go_wp2_with fail
     clear eA eC ef ef2
     go_ret2
     exact ⟨QQ,rem,rfl,rfl,yE.out⟩
def yiZ (hi lo y:Nat) (w:World) (e:Ending) (w':World):Prop :=
 ∃ q r:Nat,e=.returned (.tuple #[.int .u64 (q:Int),.int .u64 (r:Int)])∧(∃ k,w.drewN k=w')∧q*y+r=hi*yC+lo∧r<y
theorem ypo {k:IntKind} {a b c d:Int} (h:a=b) (h2:c=d):Ending.returned (.tuple #[.int k a,.int k c])=.returned (.tuple #[.int k b,.int k d]):=by rw [h,h2]
theorem yla (lo y:Nat) (w:World) (hy:0<y) (hyB:(y:Int)≤18446744073709551615) (yn2:(lo:Int)≤18446744073709551615) :
  Calls Tryz.prog 154 #[.int .u64 0,.int .u64 lo,.int .u64 y] w (yiZ 0 lo y w):=by
 have hq:Hid (lo/y*y+lo%y=0*yC+lo∧lo%y<y):=yA ⟨by rw [Nat.mul_comm,Nat.div_add_mod];omega,Nat.mod_lt _ hy⟩
 have hy1:(1:Int)≤y:=by omega
 have hlo0:(0:Int)≤lo:=by omega
 have h1:((y:Int)==0)=false:=by rw [beq_eq_false_iff_ne];omega
 have e1:IntKind.u64.wrap ((lo:Int)/y)=((lo/y:Nat):Int):=by
  rw [← Int.natCast_ediv,vE _ (by have:=Nat.div_le_self lo y;rw [yQ];omega)]
 obtain ⟨q,hqq⟩:∃ q,Hid (q=lo/y):=⟨_,yA rfl⟩
 obtain ⟨r,hrr⟩:∃ r,Hid (r=lo%y):=⟨_,yA rfl⟩
 have e2:(lo:Int)%y=(r:Int):=by rw [hrr.out];exact (Int.natCast_emod _ _).symm
 have e3:(lo:Int)/y=(q:Int):=by rw [hqq.out];exact (Int.natCast_ediv _ _).symm
 have hqle:(q:Int)≤18446744073709551615:=by have:=Nat.div_le_self lo y;rw [hqq.out];omega
 rw [← hqq.out,← hrr.out] at hq
 have E2:=yA e2
 clear e1 e2
 go_enter Tryz.func154,Tryz.ntmps154
 go_wp2_with fail
 go_quiet (fail)
 go_wp2_with fail
 go_ret2
 exact ⟨q,r,ypo rfl E2.out,⟨_,rfl⟩,hq.out⟩
theorem ysJ (a b c:Int):IntKind.u64.wrap (IntKind.u64.wrap (IntKind.u64.wrap a+b)-IntKind.u64.wrap c)=IntKind.u64.wrap (a+b-c):=by
 simp only [IntKind.wrap_u64];omega
theorem yek (U Y y1 y0 n:Nat) (hY:Y=y1*4294967296+y0) (h1:2147483648≤y1) (h2:y1≤4294967295) (h3:y0≤4294967295) (hU:U<Y) (hn:n≤4294967295) :
  (U:Int)/y1=((U/y1:Nat):Int)∧(((U/y1:Nat):Int)*y1≤18446744073709551615)∧(U:Int)-((U/y1:Nat):Int)*y1=((U%y1:Nat):Int)∧((U/y1:Nat):Int)*y1≤U ∧
  IntKind.u64.wrap (IntKind.u64.wrap (IntKind.u64.wrap ((U:Int)*4294967296)+n)-IntKind.u64.wrap ((((U*4294967296+n)/Y:Nat):Int)*Y))=(((U*4294967296+n)%Y:Nat):Int) ∧
  U%y1≤4294967295∧U/y1≤4294967297∧(U*4294967296+n)/Y≤4294967295∧(U*4294967296+n)%Y<Y∧Guess 4294967296 U y1 y0 n (U/y1) (U%y1):=by
 have hy1:0<y1:=by omega
 have hYp:0<Y:=by omega
 have hg:Guess 4294967296 U y1 y0 n (U/y1) (U%y1):=Guess.start (by omega) hy1 (by omega) (by omega) (by omega)
 have hle:U/y1*y1≤U:=Nat.div_mul_le_self _ _
 have hle':((U/y1*y1:Nat):Int)≤U:=by omega
 rw [Int.natCast_mul] at hle'
 have hdm:=Nat.div_add_mod U y1
 have hmod:U%y1<y1:=Nat.mod_lt _ hy1
 have hU64:U<yC:=by rw [yQ];omega
 have yn3:(U*4294967296+n)%Y<Y:=Nat.mod_lt _ hYp
 refine ⟨(Int.natCast_ediv _ _).symm,by rw [yQ] at hU64;omega,?_,hle',?_,by omega,hg.le,?_,yn3,hg⟩
 ·have h4:((y1*(U/y1)+U%y1:Nat):Int)=(U:Int):=by rw [hdm]
  rw [Int.natCast_add,Int.natCast_mul,Int.mul_comm] at h4
  omega
 ·rw [ysJ]
  have h4:=Nat.div_add_mod (U*4294967296+n) Y
  have h5:((Y*((U*4294967296+n)/Y)+(U*4294967296+n)%Y:Nat):Int)=(U:Int)*4294967296+n:=by rw [h4];omega
  rw [Int.natCast_add,Int.natCast_mul,Int.mul_comm] at h5
  rw [← h5]
  have h6:∀ a b:Int,a+b-a=b:=by intro a b;omega
  rw [h6,vE _ (by rw [yQ];omega)]
 ·have:=ydb (b:=4294967296) hU (show n<4294967296 by omega)
  omega
theorem ydT (hi lo y:Nat) (w:World) (hy:hi<y) (hyB:y<yC) (yn2:lo<yC):Calls Tryz.prog 154 #[.int .u64 hi,.int .u64 lo,.int .u64 y] w (yiZ hi lo y w):=by
 have hyB':(y:Int)≤18446744073709551615:=ynD hyB
 have hloB':(lo:Int)≤18446744073709551615:=ynD yn2
 by_cases h0:hi=0
 ·subst h0
  exact yla lo y w hy hyB' hloB'
 ·obtain ⟨s,hLZ,hs,hYB,hY63⟩:=yiY y (by omega) hyB
  obtain ⟨p1,p2,p3,p4,p5,p6,p7,p8⟩:=yjE hi lo y s hy hs yn2 hYB
  obtain ⟨Y,hY⟩:∃ Y,Y=y*2^s:=⟨_,rfl⟩
  obtain ⟨H,hH⟩:∃ H,H=hi*2^s:=⟨_,rfl⟩
  obtain ⟨Lq,hL⟩:∃ L,L=lo/2^(64-s):=⟨_,rfl⟩
  obtain ⟨U,hU⟩:∃ U,U=H+Lq:=⟨_,rfl⟩
  obtain ⟨Nn,hN⟩:∃ N,N=lo%2^(64-s)*2^s:=⟨_,rfl⟩
  rw [← hY] at hYB hY63 p1 p7
  rw [← hH] at p2 p5 p6 p7
  rw [← hL] at p3 p5 p6 p7
  rw [← hU] at p5 p6 p7
  rw [← hN] at p4 p6 p8
  have hYs:Y=Y/4294967296*4294967296+Y%4294967296:=by omega
  rw [yQ] at hYB p8
  have f1:=yek U Y (Y/4294967296) (Y%4294967296) (Nn/4294967296) hYs (by omega) (by omega) (by omega) p7 (by omega)
  obtain ⟨a1,a2,a3,a4,a5,a6,a7,a8,a9,a10⟩:=f1
  have f2:=yek ((U*4294967296+Nn/4294967296)%Y) Y (Y/4294967296) (Y%4294967296) (Nn%4294967296) hYs (by omega) (by omega) (by omega) a9 (by omega)
  obtain ⟨c1,c2,c3,c4,c5,c6,c7,c8,c9,c10⟩:=f2
  have yaf:=yk8 (b:=4294967296) (u:=U) (Y:=Y) (n1:=Nn/4294967296) (n0:=Nn%4294967296)
  have hNs:Nn/4294967296*4294967296+Nn%4294967296=Nn:=Nat.div_add_mod' _ _
  rw [hNs] at yaf
  have yhj:=c9
  obtain ⟨R1,hR1⟩:∃ R,R=(U*4294967296+Nn/4294967296)%Y:=⟨_,rfl⟩
  obtain ⟨Q1,hQ1⟩:∃ Q,Q=(U*4294967296+Nn/4294967296)/Y:=⟨_,rfl⟩
  rw [← hR1] at a5 a9 c1 c2 c3 c4 c5 c6 c7 c8 c9 c10 yaf yhj
  rw [← hQ1] at a5 a8 yaf
  obtain ⟨R0,hR0⟩:∃ R,R=(R1*4294967296+Nn%4294967296)%Y:=⟨_,rfl⟩
  obtain ⟨Q0,hQ0⟩:∃ Q,Q=(R1*4294967296+Nn%4294967296)/Y:=⟨_,rfl⟩
  rw [← hR0] at c5 c9 yaf yhj
  rw [← hQ0] at c5 c8 yaf
  have hsc:(hi*yC+lo)*2^s=(Q1*4294967296+Q0)*(y*2^s)+R0:=by
   rw [← hY,← yaf,← p6];rfl
  obtain ⟨g1,g2⟩:=yoB (Nat.pow_pos (by omega)) (by omega) hsc (by rw [← hY];exact yhj)
  have ydy:(R0:Int)/2^s=((R0/2^s:Nat):Int):=by push_cast;rfl
  have e1:(U*4294967296+Nn/4294967296)/(Y/4294967296*4294967296+Y%4294967296)=Q1:=by rw [← hYs];exact hQ1.symm
  have e2:(R1*4294967296+Nn%4294967296)/(Y/4294967296*4294967296+Y%4294967296)=Q0:=by rw [← hYs];exact hQ0.symm
  refine (yk9 hi lo y s Y (Y/4294967296) (Y%4294967296) H Lq U Nn (Nn/4294967296) (Nn%4294967296) (U/(Y/4294967296)) (U%(Y/4294967296)) Q1 R1 (R1/(Y/4294967296)) (R1%(Y/4294967296)) Q0 R0 (R0/2^s) w (by omega) hy hyB' hloB' hs hLZ
   (yA p1) (yA (by omega)) (yA (yiX Y (by rw [yQ];exact hYB))) (yA p2) (yA p3) (yA p5) (yA p4) (yA (by omega)) (yA (yiX Nn (by rw [yQ];exact p8)))
   (yA a1) a2 (yA a3) a4 (yA a5) (yA c1) c2 (yA c3) c4 (yA c5) (yA ydy) (by omega) (by omega) (by omega) (by omega) (by omega) (by omega) (by omega) (by omega) (by omega) (by omega) (by omega) (by omega) (by omega)
   (yA a10) (yA c10) (yA e1) (yA e2) (yA (by rw [← hYs];exact p7)) (yA (by rw [← hYs];exact a9)) (Q1*4294967296+Q0) (yA ?_) (yA ⟨?_,?_⟩)).mono ?_
  ·rw [show (Q1:Int)*4294967296=((Q1*4294967296:Nat):Int) from by omega,vE _ (by rw [yQ];omega),← Int.natCast_add,vE _ (by rw [yQ];omega)]
  ·rw [g1,g2,Nat.mul_comm,Nat.div_add_mod]
  ·rw [g2];exact Nat.mod_lt _ (by omega)
  ·rintro e w' ⟨q,r,h1,h2,h3⟩
   exact ⟨q,r,h1,⟨0,by rw [← h2];rfl⟩,h3⟩
theorem vQ (l:List Nat) (k:Nat) (hk:k<l.length):val yC (l.drop k)=l.getD k 0+yC*val yC (l.drop (k+1)):=by
 rw [List.drop_eq_getElem_cons hk,ybc,List.getD_eq_getElem?_getD,List.getElem?_eq_getElem hk];rfl
theorem ygL {q w r r' a X Y B:Nat} (h:q*w+r'=r*B+a) (hX:Y*w+r=X):(q+B*Y)*w+r'=a+B*X:=by
 subst hX;grind
theorem yoC {q d r r' a B:Nat} (he:q*d+r'=r*B+a) (hr:r<d) (ha:a<B):q<B:=by
 apply Nat.lt_of_mul_lt_mul_right (a:=d)
 have h2:(r+1)*B≤d*B:=Nat.mul_le_mul_right _ hr
 have h3:(r+1)*B=r*B+B:=by grind
 have h4:B*d=d*B:=Nat.mul_comm _ _
 omega
def yi0 (x d:Nat) (w:World) (e:Ending) (w':World):Prop :=
 ∃ v,e=.returned (.tuple #[v,.int .u64 ((x%d:Nat):Int)])∧yH w' v (x/d)∧Below w.heap.size w w'
theorem ydM (p:Option Addr) (n c:Nat) (x:List Nat) (d:Nat) (w:World) (hn0:n≤yT) (hx:Rd w p n x) (dx:yW yC x) (hd:0<d) (hdB:d<yC) :
  Calls Tryz.prog 140 #[.slice p n c,.int .u64 d] w (yi0 (val yC x) d w):=by
 obtain ⟨i0,hi,hz0,hz1,hz2⟩:=info_parts GA
 have hn:(n:Int)≤4294967296:=by unfold yT at hn0;omega
 go_enter Tryz.func140,Tryz.ntmps140
 go_wp2_with (at_make;refine wpList_make_full _ rfl _ _ 62 rfl w.heap.size 100 i0 (.int .u64 0) 1 Tryz.underlying62 hi hz0 hz1 _ _ _ _ n rfl rfl (by omega) (by omega) ?b2 ?b3 (Nat.le_refl _) ?_)
 case b2=>rw [hz2];unfold yT at hn0;omega
 case b3=>unfold maxLen;unfold yT at hn0;omega
 intro w1 jH jT
 have hr1:jA w1 w.heap.size 100 (List.replicate n 0):=vK jH
 have hb1:Below w.heap.size w w1:=(Below.refl _ _).grown jT (Nat.le_refl _) (fun k h=>by cases h)
 have hx1:=hx.below hb1
 clear jH jT
 have hlx:Hid (x.length=n):=yA hx.len
 go_wp2_with fail
 go_loopw [7,8] (fun rv i wr=>∃ (k:Nat) (z:Int) (r:Nat) (L:List Nat),k≤n∧i=.int .i64 z∧z+1=k∧rv=.int .u64 r∧Hid (r<d∧L.length=n∧yW yC (L.drop k)∧val yC (L.drop k)*d+r=val yC (x.drop k))∧jA wr w.heap.size 100 L∧Below w.heap.size w wr) (fun _ i _=>(intOf i+1).toNat)
 case atStart=>exact ⟨n,(n:Int)-1,0,_,Nat.le_refl _,rfl,by omega,rfl,yA ⟨hd,by simp,by rw [List.drop_of_length_le (by simp)];exact yW.nil _,by rw [List.drop_of_length_le (by simp),List.drop_of_length_le (by rw [hlx.out];omega)];simp [val]⟩,hr1,hb1⟩
 case round =>
  obtain ⟨k,z,r,L,hk,rfl,hz,rfl,yI,hr,hb⟩:=hrel
  by_cases h0:k=0
  ·obtain rfl:z=-1:=by omega
   subst h0
   have yE:Hid (val yC L=val yC x/d∧r=val yC x%d∧yW yC L∧L.length=n):=by
    obtain ⟨g1,g2,g3,g4⟩:=yI.out
    rw [List.drop_zero] at g3 g4
    rw [List.drop_zero] at g4
    refine ⟨?_,?_,g3,g2⟩
    ·rw [← g4,Nat.mul_comm,Nat.mul_add_div hd,Nat.div_eq_of_lt g1];rfl
    ·rw [← g4,Nat.mul_comm,Nat.mul_add_mod,Nat.mod_eq_of_lt g1]
   have ht:=GM (some ⟨w.heap.size,0,none⟩) n n L w wr (by unfold maxLen;omega) (Nat.le_refl _) (hr.rd0 n yE.out.2.2.2.symm) yE.out.2.2.1 hb
   have Ht:=yA ht
   clear ht hz
   go_wp2_with fail
   refine Ht.out.mono ?_
   rintro e w4 ⟨v,rfl,hv,hb4⟩
   rw [yE.out.1] at hv
   rw [yE.out.2.1]
   go_wp2_with fail
   go_ret2
   exact ⟨v,rfl,hv,hb4⟩
  ·obtain ⟨j,rfl⟩:∃ j:Nat,z=j:=⟨z.toNat,by omega⟩
   obtain rfl:k=j+1:=by omega
   clear hz h0
   obtain ⟨b1,o1,a,rfl,hb1',hc1,ha⟩:=hx.at (k:=j) (by omega)
   have hc:wr.cell? ⟨b1,o1+j,none⟩=some (.int .u64 (a:Int)):=(hb.cell (p:=⟨b1,o1+j,none⟩) hb1').trans hc1
   have hf:=hr.free j
   have ybn:=hr.cell j (by rw [yI.out.2.1];omega)
   have da:a<yC:=by rw [← ha.out];exact dx.getD yU j
   have yd3:=ydT r a d wr yI.out.1 hdB da
   have Hdiv:=yA yd3
   have hj:(j:Int)<n:=by omega
   clear yd3 hc1
   go_wp2_with fail
   refine Hdiv.out.mono ?_
   rintro e w3 ⟨q,r',rfl,⟨t,rfl⟩,he,hlt⟩
   have hq:q<yC:=yoC he yI.out.1 da
   have hinv':Hid (r'<d∧(L.set j q).length=n∧yW yC ((L.set j q).drop j)∧val yC ((L.set j q).drop j)*d+r'=val yC (x.drop j)):=by
    obtain ⟨g1,g2,g3,g4⟩:=yI.out
    have hjl:j<(L.set j q).length:=by rw [List.length_set];omega
    have hd1:(L.set j q).drop (j+1)=L.drop (j+1):=by rw [List.drop_set_of_lt (by omega)]
    have hgj:(L.set j q).getD j 0=q:=by rw [List.getD_eq_getElem?_getD,List.getElem?_set_self (by omega)];rfl
    refine ⟨hlt,by rw [List.length_set];exact g2,?_,?_⟩
    ·rw [List.drop_eq_getElem_cons hjl,hd1]
     have:(L.set j q)[j]=q:=by simp
     rw [this]
     exact (yW.one hq).append g3
    ·rw [vQ _ j hjl,hd1,hgj,vQ x j (by rw [hlx.out];omega),ha.out]
     exact ygL he g4
   have hr3:jA (wr.drewN t) w.heap.size 100 L:=hr
   have hb3:Below w.heap.size w (wr.drewN t):=hb.trans (yJ _ _ _)
   clear he hlt
   go_wp2_with fail
   go_roundw
   case rel=>exact ⟨j,(j:Int)-1,r',_,by omega,rfl,by omega,rfl,hinv',hr3.set _ _,hb3.setCell (Nat.le_refl _) _⟩
   case measure=>simp [intOf]
theorem ygM (a b s:Nat) (hs:s<64) (hb:b<yC):∃ A Bq C:Nat,IntKind.u64.wrap ((a:Int)*2^s)=A∧(b:Int)/2^(64-s)=Bq∧bits .or .u64 (A:Int) (Bq:Int)=C ∧
  Hid (C=a%2^(64-s)*2^s+b/2^(64-s)∧A=a%2^(64-s)*2^s∧C<yC∧A<yC):=by
 have hpq:2^s*2^(64-s)=yC:=by rw [← Nat.pow_add,show s+(64-s)=64 from by omega];rfl
 have hq:0<2^(64-s):=Nat.pow_pos (by omega)
 have hp:0<2^s:=Nat.pow_pos (by omega)
 have hL:b/2^(64-s)<2^s:=by rw [Nat.div_lt_iff_lt_mul hq,hpq];exact hb
 have hM:a%2^(64-s)<2^(64-s):=Nat.mod_lt _ hq
 have h1:(a%2^(64-s)+1)*2^s≤2^(64-s)*2^s:=Nat.mul_le_mul_right _ hM
 rw [Nat.add_mul,Nat.one_mul,Nat.mul_comm (2^(64-s)),hpq] at h1
 refine ⟨a%2^(64-s)*2^s,b/2^(64-s),a%2^(64-s)*2^s+b/2^(64-s),?_,by push_cast;rfl,?_,yA ⟨rfl,rfl,by omega,by omega⟩⟩
 ·rw [ycl,yfd]
  congr 1
  rw [← hpq,Nat.mul_comm (2^s),Nat.mul_mod_mul_right]
 ·exact yfe _ _ s hL (by have:=Nat.div_le_self b (2^(64-s));omega) (by omega)
theorem ybH (s:Nat) (hs:s<64):2^s*2^(64-s)=yC:=by rw [← Nat.pow_add,show s+(64-s)=64 from by omega];rfl
theorem yi1 {B P Q a bq Z X:Nat} (hB:P*Q=B) (h:Z=P*X+a/Q):(a%Q*P+bq)+B*Z=P*(a+B*X)+bq:=by
 have:=Nat.div_add_mod a Q
 generalize a/Q=d at *
 generalize a%Q=m at *
 subst h
 rw [← this,← hB];grind
def yhr (x s n:Nat) (w:World) (e:Ending) (w':World):Prop :=
 ∃ L,e=.returned (.slice (some ⟨w.heap.size,0,none⟩) (n+1) (n+1))∧jA w' w.heap.size 100 L∧L.length=n+1∧yW yC L∧val yC L=2^s*x∧Below w.heap.size w w'
theorem yel (p:Option Addr) (n c:Nat) (x:List Nat) (s:Nat) (w:World) (hn0:n≤yT) (hx:Rd w p n x) (dx:yW yC x) (hs:s<64) :
  Calls Tryz.prog 151 #[.slice p n c,.int .i64 s] w (yhr (val yC x) s n w):=by
 obtain ⟨i0,hi,hz0,hz1,hz2⟩:=info_parts GA
 have hn:(n:Int)≤4294967296:=by unfold yT at hn0;omega
 go_enter Tryz.func151,Tryz.ntmps151
 go_wp2_with (at_make;refine wpList_make_full _ rfl _ _ 62 rfl w.heap.size 100 i0 (.int .u64 0) 1 Tryz.underlying62 hi hz0 hz1 _ _ _ _ (n+1) rfl rfl (by omega) (by omega) ?b2 ?b3 (Nat.le_refl _) ?_)
 case b2=>rw [hz2];unfold yT at hn0;omega
 case b3=>unfold maxLen;unfold yT at hn0;omega
 intro w1 jH jT
 have hr1:jA w1 w.heap.size 100 (List.replicate (n+1) 0):=vK jH
 have hb1:Below w.heap.size w w1:=(Below.refl _ _).grown jT (Nat.le_refl _) (fun k h=>by cases h)
 have hx1:=hx.below hb1
 clear jH jT
 go_wp2_with (refine wpList_copy_splice (o:=⟨some 13,_,_,_,_,_⟩) rfl (.tmp 11) (.tmp 12) 62 62 rfl 100 Tryz.underlying62 (by kernel_rfl) _ _ _ _ _ _ rfl rfl w.heap.size 0 (jE (List.replicate (n+1) 0)) 100 hr1 (jE x) ?c1 ?c2 ?c3 (ybd x) w.heap.size w hb1 (Nat.le_refl _) ?_)
 case c1=>rw [jB,hx.len];exact (Nat.min_eq_left (by omega)).symm
 case c2=>exact fun h=>hx1.cells h
 case c3=>rw [jB,jB,hx.len,List.length_replicate];omega
 intro w2 hr2 hb2
 have hr:jA w2 w.heap.size 100 (x++List.replicate (n+1-n) 0):=by
  have:=hr2.out
  rw [ybr _ x _ _ rfl,ybs x (n+1) (by rw [hx.len];omega),hx.len] at this
  exact this
 have hlen:(x++List.replicate (n+1-n) 0).length=n+1:=by rw [List.length_append,List.length_replicate,hx.len];omega
 have uI:yW yC (x++List.replicate (n+1-n) 0):=dx.append (yW.zeros yU _)
 have yZ:val yC (x++List.replicate (n+1-n) 0)=val yC x:=by rw [uE,uQ];omega
 have yiG:(x++List.replicate (n+1-n) 0).getD n 0=0:=by
  rw [List.getD_eq_getElem?_getD,List.getElem?_append_right (by rw [hx.len];omega),hx.len,show n+1-n=1 from by omega];simp
 obtain ⟨X,hX⟩:∃ X,Hid (X=x++List.replicate (n+1-n) 0):=⟨_,yA rfl⟩
 rw [← hX.out] at hr hlen uI yZ yiG
 have Hlen:=yA hlen
 have Hval:=yA yZ
 have Htop:=yA yiG
 clear hr2 hlen yZ yiG hx1 hr1 hb1
 go_wp2_with fail
 go_loopw [6] (fun i wr=>∃ (k:Nat) (L:List Nat),k≤n∧i=.int .i64 k∧jA wr w.heap.size 100 L∧Below w.heap.size w wr∧Hid (L.length=n+1∧L.take (k+1)=X.take (k+1)∧yW yC L∧val yC (L.drop (k+1))=2^s*val yC (X.drop (k+1))+X.getD k 0/2^(64-s))) (fun i _=>(intOf i).toNat)
 case atStart=>exact ⟨n,X,Nat.le_refl _,rfl,hr,hb2,yA ⟨Hlen.out,rfl,uI,by rw [Htop.out,List.drop_of_length_le (by rw [Hlen.out];omega)];simp [val]⟩⟩
 case round =>
  obtain ⟨k,L,hk,rfl,vU,ycR,yI⟩:=hrel
  have g0:=vU.cell k (by rw [yI.out.1];omega)
  have f0:=vU.free k
  obtain ⟨a,ha⟩:∃ a,Hid (L.getD k 0=a):=⟨_,yA rfl⟩
  rw [ha.out] at g0
  have da:a<yC:=by rw [← ha.out];exact yI.out.2.2.1.getD yU k
  by_cases h0:k=0
  ·subst h0
   obtain ⟨A,Bq,C,e1,-,-,hC⟩:=ygM a 0 s hs yU
   have yE:Hid ((L.set 0 A).length=n+1∧yW yC (L.set 0 A)∧val yC (L.set 0 A)=2^s*val yC x):=by
    obtain ⟨i1,i2,i3,i4⟩:=yI.out
    have haX:X.getD 0 0=a:=by
     have:=congrArg (fun l=>l.getD 0 0) i2
     simp [List.getD_eq_getElem?_getD] at this
     rw [List.getD_eq_getElem?_getD,← this,← List.getD_eq_getElem?_getD];exact ha.out
    rw [haX] at i4
    refine ⟨by rw [List.length_set];exact i1,i3.set 0 A hC.out.2.2.2,?_⟩
    have h1:=vQ (L.set 0 A) 0 (by rw [List.length_set];omega)
    have h2:=vQ X 0 (by rw [Hlen.out];omega)
    rw [List.drop_zero,List.drop_set_of_lt (by omega)] at h1
    rw [List.drop_zero,haX] at h2
    have h3:(L.set 0 A).getD 0 0=A:=by rw [List.getD_eq_getElem?_getD,List.getElem?_set_self (by omega)];rfl
    rw [h1,h3,← Hval.out,h2,hC.out.2.1]
    have:=yi1 (bq:=0) (ybH s hs) i4
    simpa using this
   go_wp2_with fail
   refine bodyPost_ret (v:=.slice (some ⟨w.heap.size,0,none⟩) (n+1) (n+1)) (by simp [results,Tryz.results151,go_sem]) rfl ?_
   exact ⟨L.set 0 A,rfl,vU.set _ _,yE.out.1,yE.out.2.1,yE.out.2.2,ycR.setCell (Nat.le_refl _) _⟩
  ·have hk1:(1:Int)≤k:=by omega
   have hkn:(k:Int)≤n:=by omega
   have g1:=vU.cell (k-1) (by rw [yI.out.1];omega)
   obtain ⟨b,hb⟩:∃ b,Hid (L.getD (k-1) 0=b):=⟨_,yA rfl⟩
   rw [hb.out] at g1
   have db:b<yC:=by rw [← hb.out];exact yI.out.2.2.1.getD yU _
   obtain ⟨A,Bq,C,e1,e2,e3,hC⟩:=ygM a b s hs db
   have hinv':Hid ((L.set k C).length=n+1∧(L.set k C).take (k-1+1)=X.take (k-1+1)∧yW yC (L.set k C)∧val yC ((L.set k C).drop (k-1+1))=2^s*val yC (X.drop (k-1+1))+X.getD (k-1) 0/2^(64-s)):=by
    obtain ⟨i1,i2,i3,i4⟩:=yI.out
    have e:k-1+1=k:=by omega
    have ykF:∀ j,j≤k→X.getD j 0=L.getD j 0:=by
     intro j hj
     have h1:∀ M:List Nat,(M.take (k+1)).getD j 0=M.getD j 0:=by
      intro M;rw [List.getD_eq_getElem?_getD,List.getElem?_take_of_lt (by omega),← List.getD_eq_getElem?_getD]
     rw [← h1 X,← h1 L,i2]
    have haX:X.getD k 0=a:=by rw [ykF k (Nat.le_refl _)];exact ha.out
    have hbX:X.getD (k-1) 0=b:=by rw [ykF (k-1) (by omega)];exact hb.out
    rw [e,hbX]
    rw [haX] at i4
    refine ⟨by rw [List.length_set];exact i1,?_,i3.set k C hC.out.2.2.1,?_⟩
    ·rw [List.take_set_of_le (Nat.le_refl _)]
     have:=congrArg (List.take k) i2
     rwa [List.take_take,List.take_take,Nat.min_eq_left (by omega)] at this
    ·have h1:=vQ (L.set k C) k (by rw [List.length_set];omega)
     have h2:=vQ X k (by rw [Hlen.out];omega)
     have hd:(L.set k C).drop (k+1)=L.drop (k+1):=List.drop_set_of_lt (by omega)
     rw [hd] at h1
     have h3:(L.set k C).getD k 0=C:=by rw [List.getD_eq_getElem?_getD,List.getElem?_set_self (by omega)];rfl
     rw [h1,h3,h2,haX,hC.out.1]
     exact yi1 (ybH s hs) i4
   go_wp2_with fail
   go_region
   go_wp2_with fail
   go_roundw
   case rel=>exact ⟨k-1,L.set k C,by omega,by go_num,(vU.set k C).drew,(ycR.setCell (Nat.le_refl _) _).drew,hinv'⟩
   case measure=>simp [intOf];omega
theorem ygN (a b s:Nat) (hs:s<64) (ha:a<yC):∃ Aq Bs C:Nat,(a:Int)/2^s=Aq∧IntKind.u64.wrap ((b:Int)*2^(64-s))=Bs∧bits .or .u64 (Aq:Int) (Bs:Int)=C ∧
  Hid (C=a/2^s+b%2^s*2^(64-s)∧Aq=a/2^s∧C<yC∧Aq<yC):=by
 have hpq:=ybH s hs
 have hq:0<2^(64-s):=Nat.pow_pos (by omega)
 have hp:0<2^s:=Nat.pow_pos (by omega)
 have hL:a/2^s<2^(64-s):=by rw [Nat.div_lt_iff_lt_mul hp,Nat.mul_comm,hpq];exact ha
 have hM:b%2^s<2^s:=Nat.mod_lt _ hp
 have h1:(b%2^s+1)*2^(64-s)≤2^s*2^(64-s):=Nat.mul_le_mul_right _ hM
 rw [Nat.add_mul,Nat.one_mul,hpq] at h1
 have hAq:a/2^s<yC:=by have:=Nat.div_le_self a (2^s);omega
 refine ⟨a/2^s,b%2^s*2^(64-s),a/2^s+b%2^s*2^(64-s),by push_cast;rfl,?_,?_,yA ⟨rfl,rfl,by omega,hAq⟩⟩
 ·rw [ycl,yfd]
  congr 1
  rw [← hpq,Nat.mul_mod_mul_right]
 ·have h2:=yfe (b%2^s) (a/2^s) (64-s) hL hAq (by omega)
  rw [u64_or_nat _ _ (by rw [← yQ];omega) (by rw [← yQ];omega)] at h2 ⊢
  rw [Nat.or_comm,Nat.add_comm];exact h2
theorem ypp {B P Q p F x0 a b V:Nat} (hB:P*Q=B) (h:P*F+x0=V+p*(a%P)):P*(F+p*(a/P+b%P*Q))+x0=(V+p*a)+(p*B)*(b%P):=by
 have:=Nat.div_add_mod a P
 generalize a/P=d at *
 generalize a%P=m at *
 generalize b%P=c at *
 rw [← this,← hB];grind
theorem ypq {P p F x0 a V:Nat} (h:P*F+x0=V+p*(a%P)):P*(F+p*(a/P))+x0=V+p*a:=by
 have:=Nat.div_add_mod a P
 generalize a/P=d at *
 generalize a%P=m at *
 rw [← this];grind
def yqM (g n s:Nat) (X:List Nat) (w:World) (e:Ending) (w':World):Prop :=
 ∃ L,e=.returned (.tuple #[])∧jA w' g 100 L∧L.length=n∧yW yC L∧val yC L=val yC X/2^s∧Only g w w'
theorem ygr (g n c:Nat) (X:List Nat) (s:Nat) (w:World) (hn0:n≤yT) (hpos:1≤n) (hr:jA w g 100 X) (hlX:X.length=n) (dX:yW yC X) (hs:s<64) :
  Calls Tryz.prog 153 #[.slice (some ⟨g,0,none⟩) n c,.int .i64 s] w (yqM g n s X w):=by
 have hn:(n:Int)≤4294967296:=by unfold yT at hn0;omega
 have Hlen:=yA hlX
 clear hlX
 go_enter Tryz.func153,Tryz.ntmps153
 go_wp2_with fail
 go_loopw [10] (fun i wr=>∃ (k:Nat) (L:List Nat),k+1≤n∧i=.int .i64 k∧jA wr g 100 L∧Only g w wr∧Hid (L.length=n∧L.drop k=X.drop k∧yW yC L∧2^s*val yC (L.take k)+X.getD 0 0%2^s=val yC (X.take k)+yC^k*(X.getD k 0%2^s))) (fun i _=>n-(intOf i).toNat)
 case atStart=>exact ⟨0,X,by omega,rfl,hr,Only.refl _ _,yA ⟨Hlen.out,rfl,dX,by simp [val]⟩⟩
 case round =>
  obtain ⟨k,L,hk,rfl,vU,honly,yI⟩:=hrel
  have g0:=vU.cell k (by rw [yI.out.1];omega)
  have f0:=vU.free k
  obtain ⟨a,ha⟩:∃ a,Hid (L.getD k 0=a):=⟨_,yA rfl⟩
  rw [ha.out] at g0
  have da:a<yC:=by rw [← ha.out];exact yI.out.2.2.1.getD yU k
  have ykF:Hid (∀ j,k≤j→X.getD j 0=L.getD j 0):=yA (by
   intro j hj
   have h1:∀ M:List Nat,(M.drop k).getD (j-k) 0=M.getD j 0:=by
    intro M;rw [List.getD_eq_getElem?_getD,List.getElem?_drop,← List.getD_eq_getElem?_getD];congr 1;omega
   rw [← h1 X,← h1 L,yI.out.2.1])
  by_cases hlt:k+1<n
  ·have g1:=vU.cell (k+1) (by rw [yI.out.1];omega)
   obtain ⟨b,hb⟩:∃ b,Hid (L.getD (k+1) 0=b):=⟨_,yA rfl⟩
   rw [hb.out] at g1
   obtain ⟨A,Bs,C,e1,e2,e3,hC⟩:=ygN a b s hs da
   have hinv':Hid ((L.set k C).length=n∧(L.set k C).drop (k+1)=X.drop (k+1)∧yW yC (L.set k C)∧2^s*val yC ((L.set k C).take (k+1))+X.getD 0 0%2^s=val yC (X.take (k+1))+yC^(k+1)*(X.getD (k+1) 0%2^s)):=by
    obtain ⟨i1,i2,i3,i4⟩:=yI.out
    have haX:X.getD k 0=a:=by rw [ykF.out k (Nat.le_refl _)];exact ha.out
    have hbX:X.getD (k+1) 0=b:=by rw [ykF.out (k+1) (by omega)];exact hb.out
    have hd:(L.set k C).drop (k+1)=L.drop (k+1):=List.drop_set_of_lt (by omega)
    refine ⟨by rw [List.length_set];exact i1,?_,i3.set k C hC.out.2.2.1,?_⟩
    ·rw [hd]
     have:=congrArg (List.drop 1) i2
     rwa [List.drop_drop,List.drop_drop] at this
    ·rw [yY,yY,List.take_set_of_le (Nat.le_refl _),haX,hbX]
     have h3:(L.set k C).getD k 0=C:=by rw [List.getD_eq_getElem?_getD,List.getElem?_set_self (by omega)];rfl
     rw [h3,hC.out.1,Nat.pow_succ]
     rw [haX] at i4
     exact ypp (ybH s hs) i4
   have hk1:(k:Int)+1<n:=by omega
   go_wp2_with fail
   go_region
   go_wp2_with fail
   go_roundw
   case rel=>exact ⟨k+1,L.set k C,by omega,by go_num,(vU.set k C).drew,(honly.setCell _ _).drew,hinv'⟩
   case measure=>simp [intOf];omega
  ·obtain rfl:k+1=n:=by omega
   obtain ⟨A,Bs,C,e1,-,-,hC⟩:=ygN a 0 s hs da
   have yE:Hid ((L.set k A).length=k+1∧yW yC (L.set k A)∧val yC (L.set k A)=val yC X/2^s):=by
    obtain ⟨i1,i2,i3,i4⟩:=yI.out
    have haX:X.getD k 0=a:=by rw [ykF.out k (Nat.le_refl _)];exact ha.out
    rw [haX] at i4
    refine ⟨by rw [List.length_set];exact i1,i3.set k A hC.out.2.2.2,?_⟩
    have h1:=yY yC (L.set k A) k
    have h2:=yY yC X k
    have h3:(L.set k A).getD k 0=A:=by rw [List.getD_eq_getElem?_getD,List.getElem?_set_self (by omega)];rfl
    rw [List.take_of_length_le (by rw [List.length_set];omega),List.take_set_of_le (Nat.le_refl _),h3] at h1
    rw [List.take_of_length_le (by rw [Hlen.out];omega),haX] at h2
    have h4:=ypq i4
    rw [← hC.out.2.1,← h1,← h2] at h4
    have hp:0<2^s:=Nat.pow_pos (by omega)
    rw [← h4,Nat.mul_add_div hp,Nat.div_eq_of_lt (Nat.mod_lt _ hp)];rfl
   go_wp2_with fail
   go_end0
   exact ⟨L.set k A,rfl,vU.set _ _,yE.out.1,yE.out.2.1,yE.out.2.2,honly.setCell _ _⟩
end Go.Proofs.YtfjnipkpfbkegaaGreatDoor
