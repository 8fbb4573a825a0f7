/- Contracts. -/
import Derived.Test.YtgepehlpjpccaaaGreatDoorHEO
import Derived.Test.YtgepehlpjpccaaaGreatDoorHUR
set_option maxHeartbeats 4000000
set_option maxRecDepth 100000
namespace Go.Proofs.YtgepehlpjpccaaaGreatDoor
open Go.RowKit
open Go.Lib
theorem yfD {w:World} {p:Oa} {m c:Nat} {l:Lb} (hl:l.length=m) (h:Bs w p l):(convert 39 9 (.slice p m c)).run Tryz.prog w=.ok (.string ⟨l.toArray⟩) w:=by subst hl;exact zP w p c l h
theorem yik (p:Oa) (c n len0:Nat) (P:Lb) (w:World) (h1:1≤n) (h2:n≤8) (_hp0:Hid (P.length=len0)) (hpl:len0≤1048576) (hb:Bs w p P) (hu:Calls Tryz.prog 170 #[.slice p len0 c,.int .i64 (n:Int)] w (ycD w)) :
  Calls Tryz.prog 116 #[.slice p len0 c,.int .i64 (n:Int)] w (yb5 w):=by
 have HA:=h_ (ybT p len0 c n w h1 h2 hpl)
 have HU:=h_ hu
 have HB:=h_ hb
 have hn0:1≤(n:Int):=by omega
 have hn8:(n:Int)≤8:=by omega
 clear hu hb
 go_in
 go_wp2_with fail
 refine (HA.out).mono ?_
 rintro e w' ⟨rfl,rfl⟩
 go_wp2_with fail
 refine (HU.out).mono ?_
 rintro e w1 ⟨hb1,rfl⟩
 have yY:=h_ hb1
 clear hb1
 go_wp2_with fail
 refine wp_region_noPanic ?_
 refine wp_region_held_drew (S:=fun W'=>Be w1 W') (by kernel_rfl) bR.drew (fun hHeld=>?_)
 refine tk (i:=0) (v:=.bool false) rfl (Or.inl ⟨by rfl,by intro W' hSw;go_simp⟩) ?_
 simp only [sl]
 refine tk (i:=1) (v:=.bool true) rfl (Or.inl ⟨by rfl,by intro W' hSw;go_simp⟩) ?_
 simp only [sl]
 refine tk (i:=2) (v:=.bool true) rfl (Or.inl ⟨by rfl,by intro W' hSw;go_simp⟩) ?_
 simp only [sl]
 refine tu (i:=3) rfl ?_
 simp only [sl]
 refine tu (i:=4) rfl ?_
 simp only [sl]
 refine tu (i:=5) rfl ?_
 simp only [sl]
 refine tu (i:=6) rfl ?_
 simp only [sl]
 refine tu (i:=7) rfl ?_
 simp only [sl]
 refine tu (i:=8) rfl ?_
 simp only [sl]
 refine tu (i:=9) rfl ?_
 simp only [sl]
 refine tu (i:=10) rfl ?_
 simp only [sl]
 refine tk (i:=11) (v:=.bool true) rfl (Or.inl ⟨by rfl,by intro W' hSw;go_simp⟩) ?_
 simp only [sl]
 refine tk (i:=12) (v:=.bool true) rfl (Or.inl ⟨by rfl,by intro W' hSw;go_simp⟩) ?_
 simp only [sl]
 refine tu (i:=13) rfl ?_
 simp only [sl]
 refine tu (i:=14) rfl ?_
 simp only [sl]
 refine tu (i:=15) rfl ?_
 simp only [sl]
 refine tu (i:=16) rfl ?_
 simp only [sl]
 refine tu (i:=17) rfl ?_
 simp only [sl]
 refine tu (i:=18) rfl ?_
 simp only [sl]
 refine tu (i:=19) rfl ?_
 simp only [sl]
 refine tu (i:=20) rfl ?_
 simp only [sl]
 refine tk (i:=21) (v:=.bool true) rfl (Or.inl ⟨by rfl,by intro W' hSw;go_simp⟩) ?_
 simp only [sl]
 refine wpAnyH_done (by kernel_rfl) ?_ _
 refine NoPanic.normal ?_
 clear hHeld
 go_wp2
 go_ret2
 exact ⟨yY.out.drew,rfl⟩
theorem yil (p:Oa) (c n len0:Nat) (P:Lb) (w:World) (h1:1≤n) (h2:n≤8) (_hp0:Hid (P.length=len0)) (hpl:len0≤1048576) (hb:Bs w p P) (gs:List Nat) (rs:Lb) (hK:gs.length≤1048576) (hr:rs.length≤1048576) (hu:Calls Tryz.prog 170 #[.slice p len0 c,.int .i64 (n:Int)] w (yaU gs rs w)) (hm:1048576<gs.length*n+rs.length) :
  Calls Tryz.prog 116 #[.slice p len0 c,.int .i64 (n:Int)] w (yb5 w):=by
 have HA:=h_ (ybT p len0 c n w h1 h2 hpl)
 have HU:=h_ hu
 have HB:=h_ hb
 have hn0:1≤(n:Int):=by omega
 have hn8:(n:Int)≤8:=by omega
 obtain ⟨K,HK⟩:=ez (gs.length)
 obtain ⟨r,HRL⟩:=ez (rs.length)
 rw [HK.out] at hK
 rw [HRL.out] at hr
 obtain ⟨C,HC⟩:=ey (K*n)
 have hCl:C≤8388608:=by
  have h5:K*n≤1048576*8:=Nat.mul_le_mul hK h2
  rw [HC.out];omega
 have GJ:IntKind.i64.wrap ((K:Int)*(n:Int))=(C:Int):=by
  rw [show (K:Int)*(n:Int)=(C:Int) by rw [HC.out];simp,IntKind.wrap_i64];omega
 obtain ⟨SM,HSM⟩:=ey (C+r)
 have ya9:IntKind.i64.wrap ((C:Int)+(r:Int))=(SM:Int):=by rw [HSM.out,IntKind.wrap_i64];omega
 have hgt:1048576<(SM:Int):=by rw [HK.out,HRL.out] at hm;rw [HSM.out,HC.out];omega
 have hgd:decide (1048576<(SM:Int))=true:=decide_eq_true hgt
 clear hu hb hm
 go_in
 go_wp2_with fail
 refine (HA.out).mono ?_
 rintro e w' ⟨rfl,rfl⟩
 go_wp2_with fail
 refine (HU.out).mono ?_
 rintro e w1 ⟨hb1,pg,cg,q,d,rfl,-,-⟩
 rw [HK.out,HRL.out]
 have yY:=h_ hb1
 clear hb1
 go_wp2_with fail
 refine wp_region_noPanic ?_
 refine wp_region_held_drew (S:=fun W'=>Be w1 W') (by kernel_rfl) bR.drew (fun hHeld=>?_)
 refine tk (i:=0) (v:=.bool true) rfl (Or.inl ⟨by rfl,by intro W' hSw;go_simp⟩) ?_
 simp only [sl]
 refine tk (i:=1) (v:=.bool false) rfl (Or.inl ⟨by rfl,by intro W' hSw;go_simp⟩) ?_
 simp only [sl]
 refine tk (i:=2) (v:=.bool false) rfl (Or.inl ⟨by rfl,by intro W' hSw;go_simp⟩) ?_
 simp only [sl]
 refine tk (i:=3) (v:=.slice pg K cg) rfl (Or.inl ⟨by rfl,by intro W' hSw;go_simp⟩) ?_
 simp only [sl]
 refine tk (i:=4) (v:=.int .i64 (K:Int)) rfl (Or.inl ⟨by rfl,by intro W' hSw;go_simp⟩) ?_
 simp only [sl]
 refine tk (i:=5) (v:=.int .i64 (n:Int)) rfl (Or.inl ⟨by rfl,by intro W' hSw;go_simp⟩) ?_
 simp only [sl]
 refine tk (i:=6) (v:=.int .i64 (C:Int)) rfl (Or.inl ⟨by rfl,by intro W' hSw;go_simp⟩) ?_
 simp only [sl]
 refine tk (i:=7) (v:=.slice q r d) rfl (Or.inl ⟨by rfl,by intro W' hSw;go_simp⟩) ?_
 simp only [sl]
 refine tk (i:=8) (v:=.int .i64 (r:Int)) rfl (Or.inl ⟨by rfl,by intro W' hSw;go_simp⟩) ?_
 simp only [sl]
 refine tk (i:=9) (v:=.int .i64 (SM:Int)) rfl (Or.inl ⟨by rfl,by intro W' hSw;go_simp⟩) ?_
 simp only [sl]
 refine tk (i:=10) (v:=.bool true) rfl (Or.inl ⟨by rfl,by intro W' hSw;go_simp⟩) ?_
 simp only [sl]
 refine tk (i:=11) (v:=.bool true) rfl (Or.inl ⟨by rfl,by intro W' hSw;go_simp⟩) ?_
 simp only [sl]
 refine tk (i:=12) (v:=.bool true) rfl (Or.inl ⟨by rfl,by intro W' hSw;go_simp⟩) ?_
 simp only [sl]
 refine tu (i:=13) rfl ?_
 simp only [sl]
 refine tu (i:=14) rfl ?_
 simp only [sl]
 refine tu (i:=15) rfl ?_
 simp only [sl]
 refine tu (i:=16) rfl ?_
 simp only [sl]
 refine tu (i:=17) rfl ?_
 simp only [sl]
 refine tu (i:=18) rfl ?_
 simp only [sl]
 refine tu (i:=19) rfl ?_
 simp only [sl]
 refine tu (i:=20) rfl ?_
 simp only [sl]
 refine tk (i:=21) (v:=.bool true) rfl (Or.inl ⟨by rfl,by intro W' hSw;go_simp⟩) ?_
 simp only [sl]
 refine wpAnyH_done (by kernel_rfl) ?_ _
 refine NoPanic.normal ?_
 clear hHeld
 go_wp2
 go_ret2
 exact ⟨yY.out.drew,rfl⟩
def yv7 (b:Bool) (L:Lb) (m:Nat) (w:World) (e:Ending) (w':World):Prop:=match b with
 | true=>yez L m w e w'
 | false=>yb5 w e w'
theorem ynb (A B:Lb):((⟨A.toArray⟩:ByteArray).toList==(⟨B.toArray⟩:ByteArray).toList)=decide (A=B):=by
 by_cases h:A=B
 ·rw [h,decide_eq_true rfl];exact beq_self_eq_true _
 ·rw [decide_eq_false h];exact yjs h
theorem yc5 (b1 b2:Bool) (p:Oa) (c n len0:Nat) (P:Lb) (w:World) (h1:1≤n) (h2:n≤8) (hp0:Hid (P.length=len0)) (hpl:len0≤1048576) (hb:Bs w p P) (gs:List Nat) (rs:Lb) (hK:gs.length≤1048576) (hr:rs.length≤1048576) (hu:Calls Tryz.prog 170 #[.slice p len0 c,.int .i64 (n:Int)] w (yaU gs rs w)) (hlt:∀ x ∈ gs,x<zR) (hm:gs.length*n+rs.length≤1048576) (HQ1:Hid (decide (ycm n gs rs=P)=b1)) (HQ2:Hid (decide (vJ (jl n gs++rs) n=P)=b2)) :
  Calls Tryz.prog 116 #[.slice p len0 c,.int .i64 (n:Int)] w (yv7 (b1&&b2) (jl n gs++rs) (jl n gs++rs).length w):=by
 have HA:=h_ (ybT p len0 c n w h1 h2 hpl)
 have HU:=h_ hu
 have HB:=h_ hb
 have hn0:1≤(n:Int):=by omega
 have hn8:(n:Int)≤8:=by omega
 obtain ⟨K,HK⟩:=ez (gs.length)
 obtain ⟨r,HRL⟩:=ez (rs.length)
 rw [HK.out] at hK
 rw [HRL.out] at hr
 obtain ⟨C,HC⟩:=ey (K*n)
 have hCl:C≤8388608:=by
  have h5:K*n≤1048576*8:=Nat.mul_le_mul hK h2
  rw [HC.out];omega
 have GJ:IntKind.i64.wrap ((K:Int)*(n:Int))=(C:Int):=by
  rw [show (K:Int)*(n:Int)=(C:Int) by rw [HC.out];simp,IntKind.wrap_i64];omega
 obtain ⟨SM,HSM⟩:=ey (C+r)
 have ya9:IntKind.i64.wrap ((C:Int)+(r:Int))=(SM:Int):=by rw [HSM.out,IntKind.wrap_i64];omega
 obtain ⟨R,HR⟩:=ey (ycm n gs rs)
 obtain ⟨sp,hsp⟩:∃ sp:ByteArray,⟨P.toArray⟩=sp:=⟨_,rfl⟩
 obtain ⟨sr,hsr⟩:∃ sr:ByteArray,⟨R.toArray⟩=sr:=⟨_,rfl⟩
 have hgt:¬ 1048576<(SM:Int):=by rw [HK.out,HRL.out] at hm;rw [HSM.out,HC.out];omega
 have hgd:decide (1048576<(SM:Int))=false:=decide_eq_false hgt
 have hq:(sr.toList==sp.toList)=b1:=by rw [← hsp,← hsr,HR.out,← HQ1.out];exact ynb _ _
 have hag:=HQ2.out
 obtain ⟨L,HL⟩:=ey (jl n gs++rs)
 obtain ⟨ll,GL⟩:=ey (L.length)
 have hll:ll≤1048576:=by rw [GL.out,HL.out,List.length_append,uE];exact hm
 have hCk:K*n≤1048576:=by rw [HK.out,HRL.out] at hm;omega
 have hr2:r≤1048576:=by rw [HK.out,HRL.out] at hm;omega
 rw [← HL.out] at hag
 obtain ⟨Q,HQ⟩:=ey (vJ L n)
 obtain ⟨sq,hsq⟩:∃ sq:ByteArray,⟨Q.toArray⟩=sq:=⟨_,rfl⟩
 have hq2:(sq.toList==sp.toList)=b2:=by rw [← hsp,← hsq,HQ.out,← hag];exact ynb _ _
 rw [← HL.out,← GL.out]
 clear hu hb hm hag
 go_in
 go_wp2_with fail
 refine (HA.out).mono ?_
 rintro e w' ⟨rfl,rfl⟩
 go_wp2_with fail
 refine (HU.out).mono ?_
 rintro e w1 ⟨hb1,pg,cg,q,d,rfl,hrd,hbs⟩
 rw [HK.out] at hrd
 rw [HK.out,HRL.out]
 have yY:=h_ hb1
 have yi0:Hid (∀ W',Be w1 W'→(convert 39 9 (.slice p len0 c)).run Tryz.prog W'=.ok (.string sp) W'):=h_ (fun W' hW=>by rw [← hsp];exact yfD hp0.out ((HB.out.below yY.out).below hW))
 have HP:=h_ (yeM pg cg K n gs q r d rs w1.drew h1 h2 hK hr (hrd.below bR.drew) hlt HRL (hbs.below bR.drew))
 rw [← HR.out] at HP
 have HJ:=h_ (fun (W:World) (hW:Be w1 W)=>yf0 pg cg K n gs q r d rs W h1 h2 hCk hr2 (hrd.below hW) hlt HRL (hbs.below hW))
 rw [← HL.out] at HJ
 clear hb1 hrd hbs
 go_wp2_with fail
 refine wp_region_noPanic ?_
 refine wp_region_held_drew (S:=fun W'=>Be w1 W') (by kernel_rfl) bR.drew (fun hHeld=>?_)
 refine tk (i:=0) (v:=.bool true) rfl (Or.inl ⟨by rfl,by intro W' hSw;go_simp⟩) ?_
 simp only [sl]
 refine tk (i:=1) (v:=.bool false) rfl (Or.inl ⟨by rfl,by intro W' hSw;go_simp⟩) ?_
 simp only [sl]
 refine tk (i:=2) (v:=.bool false) rfl (Or.inl ⟨by rfl,by intro W' hSw;go_simp⟩) ?_
 simp only [sl]
 refine tk (i:=3) (v:=.slice pg K cg) rfl (Or.inl ⟨by rfl,by intro W' hSw;go_simp⟩) ?_
 simp only [sl]
 refine tk (i:=4) (v:=.int .i64 (K:Int)) rfl (Or.inl ⟨by rfl,by intro W' hSw;go_simp⟩) ?_
 simp only [sl]
 refine tk (i:=5) (v:=.int .i64 (n:Int)) rfl (Or.inl ⟨by rfl,by intro W' hSw;go_simp⟩) ?_
 simp only [sl]
 refine tk (i:=6) (v:=.int .i64 (C:Int)) rfl (Or.inl ⟨by rfl,by intro W' hSw;go_simp⟩) ?_
 simp only [sl]
 refine tk (i:=7) (v:=.slice q r d) rfl (Or.inl ⟨by rfl,by intro W' hSw;go_simp⟩) ?_
 simp only [sl]
 refine tk (i:=8) (v:=.int .i64 (r:Int)) rfl (Or.inl ⟨by rfl,by intro W' hSw;go_simp⟩) ?_
 simp only [sl]
 refine tk (i:=9) (v:=.int .i64 (SM:Int)) rfl (Or.inl ⟨by rfl,by intro W' hSw;go_simp⟩) ?_
 simp only [sl]
 refine tk (i:=10) (v:=.bool false) rfl (Or.inl ⟨by rfl,by intro W' hSw;go_simp⟩) ?_
 simp only [sl]
 refine tk (i:=11) (v:=.bool false) rfl (Or.inl ⟨by rfl,by intro W' hSw;go_simp⟩) ?_
 simp only [sl]
 refine tk (i:=12) (v:=.bool false) rfl (Or.inl ⟨by rfl,by intro W' hSw;go_simp⟩) ?_
 simp only [sl]
 refine tk (i:=13) (v:=.slice pg K cg) rfl (Or.inl ⟨by rfl,by intro W' hSw;go_simp⟩) ?_
 simp only [sl]
 refine tk (i:=14) (v:=.int .i64 (n:Int)) rfl (Or.inl ⟨by rfl,by intro W' hSw;go_simp⟩) ?_
 simp only [sl]
 refine tk (i:=15) (v:=.slice q r d) rfl (Or.inl ⟨by rfl,by intro W' hSw;go_simp⟩) ?_
 simp only [sl]
 refine tk (i:=18) (v:=.slice p len0 c) rfl (Or.inl ⟨by rfl,by intro W' hSw;go_simp⟩) ?_
 simp only [sl]
 refine tk (i:=19) (v:=.string sp) rfl (Or.inl ⟨by rfl,by intro W' hSw;have hcv:=yi0.out W' hSw;go_simp⟩) ?_
 simp only [sl]
 refine oN (i:=16) rfl fun K hK=>?_
 go_simp
 refine (HP.out).mono ?_
 rintro e w2 ⟨v2,rfl,hg2⟩
 have hb2:Be w1 w2:=(Below.refl _ w1).drew.trans (hg2.below nl (by intro k hk;cases hk))
 obtain ⟨q2,d2,rfl,hs2,-⟩:=zA hg2.own
 have ylF:=yfD (c:=d2) rfl hs2
 obtain ⟨m2,HM2⟩:=ey (R.length)
 rw [← HM2.out] at ylF ⊢
 rw [hsr] at ylF
 clear hg2 hs2
 refine hK.out _ _ (hb2) (fun hHeld=>?_)
 clear hK K
 refine oN (i:=17) rfl fun K hK=>?_
 go_simp
 refine hK.out _ _ (hb2) (fun hHeld=>?_)
 clear hK K
 refine tk (i:=20) (v:=.bool (!b1)) rfl (Or.inl ⟨by rfl,by intro W' hSw;go_simp⟩) ?_
 simp only [sl]
 refine tk (i:=21) (v:=.bool (!b1)) rfl (Or.inl ⟨by rfl,by intro W' hSw;go_simp⟩) ?_
 simp only [sl]
 refine wpAnyH_done (by kernel_rfl) ?_ _
 refine NoPanic.normal ?_
 clear hHeld ylF
 cases b1 with
 | false =>
 go_wp2
 go_ret2
 exact ⟨tr yY.out hb2,rfl⟩
 | true =>
 go_wp2_with fail
 refine (HJ.out _ hb2).mono ?_
 rintro e w3 ⟨v3,rfl,hg3⟩
 obtain ⟨q3,d3,rfl,hs3,hd3⟩:=zA hg3.own
 have hn3:=yaw hg3.own
 rw [← GL.out] at hd3 ⊢
 have hb3:=h_ (hb2.trans ((hg3.below nl (by intro k hk;cases hk)).mono hb2.size))
 have HS3:=h_ hs3
 have HPk:=h_ (yoa q3 d3 n ll L w3 GL h1 h2 hll (h_ hd3) (h_ hn3) hs3)
 rw [← HQ.out] at HPk
 have hd3':=h_ hd3
 have hn3':=h_ hn3
 clear hg3 hs3 hd3 hn3
 go_wp2_with fail
 refine (HPk.out).mono ?_
 rintro e w4 ⟨hb4,v4,rfl,ho4⟩
 obtain ⟨q4,d4,rfl,hs4,-⟩:=zA ho4
 have ylG:=tr hb3.out hb4
 have hcv4:=yfD (c:=d4) rfl hs4
 have hcp4:=yi0.out w4 ylG
 have HS4:=h_ (HS3.out.below hb4)
 obtain ⟨m4,HM4⟩:=ey (Q.length)
 rw [← HM4.out] at hcv4 ⊢
 rw [hsq] at hcv4
 have HB4:=th yY ylG
 clear ho4 hs4 hb4 ylG
 cases b2 with
 | false =>
 go_wp2
 go_ret2
 exact ⟨HB4.out,rfl⟩
 | true =>
 go_wp2
 go_ret2
 exact ⟨HB4.out,_,_,rfl,hd3',hn3',HS4.out⟩
def yhI (P:Lb) (n:Nat):Option (List Nat × Lb) :=
 if P.length<4 then none
 else if nb (P.take 4)=0 then some ([],P.drop 4)
 else if 1048576<nb (P.take 4) then none
 else if P.length<5+n then none
 else if 64<(P.getD (4+n) 0).toNat then none
 else if P.length-(5+n)<(nb (P.take 4)*(P.getD (4+n) 0).toNat+7)/8 then none
 else some (unG (rdB (P.drop (5+n))) (P.getD (4+n) 0).toNat (nb ((P.drop 4).take n)) (nb (P.take 4)),(P.drop (5+n)).drop ((nb (P.take 4)*(P.getD (4+n) 0).toNat+7)/8))
theorem yjt (p:Oa) (c n len0:Nat) (P:Lb) (w:World) (h1:1≤n) (h2:n≤8) (hp0:Hid (P.length=len0)) (hpl:len0≤1048576) (hc:len0≤c) (hb:Bs w p P) :
  (∀ gs rs,yhI P n=some (gs,rs)→gs.length≤1048576∧rs.length≤1048576∧∀ g ∈ gs,g<zR) ∧
  Calls Tryz.prog 170 #[.slice p len0 c,.int .i64 (n:Int)] w (fun e w'=>match yhI P n with|none=>ycD w e w' | some (gs,rs)=>yaU gs rs w e w'):=by
 have hpo:=hp0.out
 unfold yhI
 by_cases h4:P.length<4
 ·rw [if_pos h4]
  exact ⟨(fun _ _ e=>by cases e),ylU p len0 c n w (by omega)⟩
 rw [if_neg h4]
 obtain ⟨b0,off,rfl⟩:=yfa hb (by omega)
 obtain ⟨k,HK⟩:∃ k,nb (P.take 4)=k:=⟨_,rfl⟩
 rw [HK]
 by_cases hk0:k=0
 ·rw [if_pos hk0]
  refine ⟨(fun gs rs e=>?_),yn3 b0 off len0 c n k P w h1 h2 (by omega) hc (by omega) hp0 (h_ HK) hk0 hb⟩
  have e2:=Option.some.inj e
  cases e2
  exact ⟨Nat.zero_le _,by rw [List.length_drop];omega,(fun _ h=>by cases h)⟩
 rw [if_neg hk0]
 by_cases hkm:1048576<k
 ·rw [if_pos hkm]
  exact ⟨(fun _ _ e=>by cases e),yn0 b0 off len0 c n k P w h1 h2 (by omega) hc (by omega) hp0 (h_ HK) hkm hb⟩
 rw [if_neg hkm]
 by_cases hh:P.length<5+n
 ·rw [if_pos hh]
  exact ⟨(fun _ _ e=>by cases e),yn1 b0 off len0 c n k P w h1 h2 (by omega) hc (by omega) hp0 (h_ HK) (Nat.pos_of_ne_zero hk0) (by omega) (by omega) hb⟩
 rw [if_neg hh]
 obtain ⟨wd,HW⟩:∃ wd,(P.getD (4+n) 0).toNat=wd:=⟨_,rfl⟩
 rw [HW]
 by_cases hw:64<wd
 ·rw [if_pos hw]
  exact ⟨(fun _ _ e=>by cases e),yn2 b0 off len0 c n k P w h1 h2 (by omega) hc (by omega) hp0 (h_ HK) wd (Nat.pos_of_ne_zero hk0) (by omega) (by omega) (h_ HW) hw hb⟩
 rw [if_neg hw]
 by_cases hs:P.length-(5+n)<(k*wd+7)/8
 ·rw [if_pos hs]
  refine ⟨(fun _ _ e=>by cases e),?_⟩
  by_cases hcap:5+n<c
  ·exact ylV b0 off len0 c n k P w h1 h2 (by omega) hc (by omega) hp0 (h_ HK) hcap wd (Nat.pos_of_ne_zero hk0) (by omega) (by omega) (h_ HW) (by omega) (by rw [← hpo];exact hs) hb
  ·exact ylW b0 off len0 c n k P w h1 h2 (by omega) hc (by omega) hp0 (h_ HK) (by omega) wd (Nat.pos_of_ne_zero hk0) (by omega) (by omega) (h_ HW) (by omega) (by rw [← hpo];exact hs) hb
 rw [if_neg hs]
 refine ⟨(fun gs rs e=>?_),?_⟩
 ·have e2:=Option.some.inj e
  cases e2
  exact ⟨by rw [uB];omega,by rw [List.length_drop,List.length_drop];omega,yu8 _ _ _ _⟩
 ·by_cases hcap:5+n<c
  ·exact yqM b0 off len0 c n k P w h1 h2 (by omega) hc (by omega) hp0 (h_ HK) hcap wd (Nat.pos_of_ne_zero hk0) (by omega) (by omega) (h_ HW) (by omega) (by rw [← hpo];omega) hb
  ·exact yqN b0 off len0 c n k P w h1 h2 (by omega) hc (by omega) hp0 (h_ HK) (by omega) wd (Nat.pos_of_ne_zero hk0) (by omega) (by omega) (h_ HW) (by omega) (by rw [← hpo];omega) hb
theorem yn4 {l:Lb} {n:Nat} (h1:1≤n) (h2:n≤8) (hl:l.length≤1048576):yhI (vJ l n) n=some (gl n (l.length/n) l,l.drop (l.length/n*n)):=by
 by_cases hk:l.length/n=0
 ·have hP2:vJ l n=be 4 0++l:=by rw [vJ,hk,Nat.zero_mul,List.drop_zero];rfl
  rw [hP2,hk,Nat.zero_mul,List.drop_zero,yhI,if_neg (by rw [List.length_append,zD];omega),ye3,if_pos (show nb (be 4 0)=0 from rfl),ye4];rfl
 ·have hp:=yeX h1 h2 hl (Nat.pos_of_ne_zero hk)
  obtain ⟨P,HP⟩:∃ P,P=vJ l n:=⟨_,rfl⟩
  obtain ⟨k,HK⟩:∃ k,k=l.length/n:=⟨_,rfl⟩
  obtain ⟨m,HM⟩:∃ m,m=mnL (gl n k l):=⟨_,rfl⟩
  obtain ⟨wd,HW⟩:∃ wd,wd=wdL (gl n k l):=⟨_,rfl⟩
  rw [← HP] at hp ⊢
  rw [← HK] at hp hk ⊢
  rw [← HM,← HW] at hp
  have hlen:=hp.len
  have hwid:(P.getD (4+n) 0).toNat=wd:=by
   rw [← hp.wid,List.getD_eq_getElem?_getD,List.getD_eq_getElem?_getD,List.getElem?_drop]
  have hwd:=hp.wdl
  have hd:P.drop (5+n)=(P.drop 4).drop (n+1):=by rw [List.drop_drop];congr 1;omega
  have hkl:k≤1048576:=by rw [HK];exact Nat.le_trans (Nat.div_le_self _ _) hl
  rw [yhI,hp.cnt,hwid,hd,hp.lst,if_neg (by omega),if_neg hk,if_neg (by omega),if_neg (by omega),if_neg (by omega),if_neg (by omega),hp.grp,hp.rst]
theorem ygj (p:Oa) (c n len0 len:Nat) (l P:Lb) (w:World) (hP:Hid (P=vJ l n)) (h1:1≤n) (h2:n≤8) (hlen:Hid (len=l.length)) (hl:len≤1048576) (hp0:Hid (P.length=len0)) (hpl:len0≤1048576) (hc:Hid (len0≤c)) (hb:Bs w p P) :
  Calls Tryz.prog 116 #[.slice p len0 c,.int .i64 (n:Int)] w (yez l len w):=by
 have hlo:=hlen.out
 subst hlo
 obtain ⟨hf,hu⟩:=yjt p c n len0 P w h1 h2 hp0 hpl hc.out hb
 have ho:yhI P n=some (gl n (l.length/n) l,l.drop (l.length/n*n)):=by rw [hP.out];exact yn4 h1 h2 hl
 obtain ⟨f1,f2,f3⟩:=hf _ _ ho
 rw [ho] at hu
 have hkn:l.length/n*n≤l.length:=Nat.div_mul_le_self _ _
 have hjl:jl n (gl n (l.length/n) l)++l.drop (l.length/n*n)=l:=ypV n _ l hkn
 have h:=yc5 true true p c n len0 P w h1 h2 hp0 hpl hb _ _ f1 f2 hu f3 (by rw [vV,List.length_drop];omega) (h_ (decide_eq_true (by rw [hP.out];rfl))) (h_ (decide_eq_true (by rw [hjl];exact hP.out.symm)))
 rw [hjl] at h
 exact h
theorem ygk (p:Oa) (c n len0:Nat) (P:Lb) (w:World) (h1:1≤n) (h2:n≤8) (hp0:Hid (P.length=len0)) (hpl:len0≤1048576) (hc:len0≤c) (hno:yk5 P n) (hb:Bs w p P) :
  Calls Tryz.prog 116 #[.slice p len0 c,.int .i64 (n:Int)] w (yb5 w):=by
 obtain ⟨hf,hu⟩:=yjt p c n len0 P w h1 h2 hp0 hpl hc hb
 cases ho:yhI P n with
 | none =>
  rw [ho] at hu
  exact yik p c n len0 P w h1 h2 hp0 hpl hb hu
 | some x =>
  obtain ⟨gs,rs⟩:=x
  obtain ⟨f1,f2,f3⟩:=hf _ _ ho
  rw [ho] at hu
  by_cases hm:1048576<gs.length*n+rs.length
  ·exact yil p c n len0 P w h1 h2 hp0 hpl hb gs rs f1 f2 hu hm
  ·by_cases heq:ycm n gs rs=P
   ·exact yc5 true false p c n len0 P w h1 h2 hp0 hpl hb gs rs f1 f2 hu f3 (by omega) (h_ (decide_eq_true heq)) (h_ (decide_eq_false (hno _ (by rw [List.length_append,uE];omega))))
   ·exact yc5 false _ p c n len0 P w h1 h2 hp0 hpl hb gs rs f1 f2 hu f3 (by omega) (h_ (decide_eq_false heq)) (h_ rfl)
theorem yp6 {st:Nat→Nat→Nat × Nat} (h:∀ a g,(st a g).1<zR):∀ (gs:List Nat) (a:Nat),∀ x ∈ stL st a gs,x<zR
 | [],_,x,hx=>by cases hx
 | g::gs,a,x,hx=>by
  rw [stL,List.mem_cons] at hx
  rcases hx with rfl|hx
  ·exact h _ _
  ·exact yp6 h gs _ x hx
structure FillAt (st:Nat→Nat→Nat × Nat) (gs:List Nat) (k i a:Nat) (X:List Nat):Prop where
 ex:∃ P:List Nat,P.length=i∧X=P++List.replicate (k-i) 0∧P++stL st a (gs.drop i)=stL st 0 gs
theorem FillAt.start (st:Nat→Nat→Nat × Nat) (gs:List Nat) (k:Nat):FillAt st gs k 0 0 (List.replicate k 0):=⟨[],rfl,by rw [Nat.sub_zero,List.nil_append],by rw [List.nil_append,List.drop_zero]⟩
theorem FillAt.step {st:Nat→Nat→Nat × Nat} {gs X:List Nat} {k i a:Nat} (h:FillAt st gs k i a X) (hl:gs.length=k) (hi:i<k):FillAt st gs k (i+1) (st a (gs.getD i 0)).2 (X.set i (st a (gs.getD i 0)).1):=by
 obtain ⟨P,h1,h2,h3⟩:=h.ex
 have hd:gs.drop i=gs.getD i 0::gs.drop (i+1):=by
  rw [gD (by omega),Option.getD_some]
  exact List.drop_eq_getElem_cons (by omega)
 refine ⟨P++[(st a (gs.getD i 0)).1],by rw [List.length_append,h1];rfl,?_,?_⟩
 ·have hk:k-i=(k-(i+1))+1:=by omega
  rw [h2,← h1,List.set_append_right _ _ nl,Nat.sub_self,h1,hk,List.replicate_succ,List.set_cons_zero,List.append_assoc];rfl
 ·rw [← h3,hd,stL,List.append_assoc];rfl
theorem FillAt.done {st:Nat→Nat→Nat × Nat} {gs X:List Nat} {k a:Nat} (h:FillAt st gs k k a X) (hl:gs.length=k):X=stL st 0 gs:=by
 obtain ⟨P,h1,h2,h3⟩:=h.ex
 rw [List.drop_of_length_le (by omega),stL,List.append_nil] at h3
 rw [h2,Nat.sub_self,List.replicate_zero,List.append_nil,h3]
theorem FillAt.len {st:Nat→Nat→Nat × Nat} {gs X:List Nat} {k i a:Nat} (h:FillAt st gs k i a X) (hi:i≤k):X.length=k:=by
 obtain ⟨P,h1,h2,h3⟩:=h.ex
 rw [h2,List.length_append,List.length_replicate,h1];omega
theorem yn5 {w:World} {g k:Nat} {X:List Nat} (h:zV w g 86 X) (hk:X.length=k):Rd w (some ⟨g,0,none⟩) k X:=by
 subst hk
 refine ⟨rfl,.inr ⟨g,0,rfl,h.lt,fun j hj=>?_⟩⟩
 rw [Nat.zero_add];exact h.cell j hj
theorem ykq (p:Oa) (c n len:Nat) (l:Lb) (w:World) (HN:Hid (len=l.length)) (h1:1≤n) (h2:n≤8) (hl:len≤1048576) (hc:Hid (len≤c)) (hpc:Hid (p=none→c=0)) (hb:Bs w p l) :
  Calls Tryz.prog 114 #[.slice p len c,.int .i64 (n:Int)] w (uR (yjc l n) w):=by
 obtain ⟨i0,hi,hz0,hz1,hz2⟩:=info_parts vP
 have HA:=h_ (ybT p len c n w h1 h2 hl)
 have HG:=h_ (yfZ p c n l w h1 h2 (by rw [← HN.out];exact hl) (by rw [← HN.out];exact hc.out) hpc.out hb)
 rw [← HN.out] at HG
 obtain ⟨k,HK⟩:=ey (len/n)
 rw [← HK.out] at HG
 have HKN:Hid (k*n≤len):=h_ (by rw [HK.out];exact Nat.div_mul_le_self _ _)
 have hkl:k≤len:=by have:=HKN.out;have h4:k*1≤k*n:=Nat.mul_le_mul_left _ h1;omega
 have hki:(k:Int)≤1048576:=by omega
 obtain ⟨gs,HGS⟩:=ey (gl n k l)
 have hgl:Hid (gs.length=k):=h_ (by rw [HGS.out,vV])
 have hglt:Hid (∀ x ∈ gs,x<zR):=h_ (by rw [HGS.out];exact yiV h2 k l)
 obtain ⟨rs,HRS⟩:=ey (l.drop (k*n))
 rw [← HGS.out,← HRS.out] at HG
 have yF:Hid (jl n (stL yc1 0 gs)++rs=yjc l n):=h_ (by rw [HGS.out,HRS.out,ylb,yjc,HK.out,HN.out])
 obtain ⟨r,HR⟩:=ez (rs.length)
 have hrl:r≤1048576:=by rw [← HR.out,HRS.out,List.length_drop,← HN.out];omega
 have hn1:1≤(n:Int):=by omega
 have hn8:(n:Int)≤8:=by omega
 clear hb
 go_in
 go_wp2_with fail
 refine (HA.out).mono ?_
 rintro e w' ⟨rfl,rfl⟩
 go_wp2_with fail
 refine (HG.out).mono ?_
 rintro e w1 ⟨hb1,p1,c1,q1,d1,rfl,hrd,hbs⟩
 rw [hgl.out] at hrd ⊢
 rw [HR.out]
 have yY:=h_ hb1
 have HRD:=h_ hrd
 have HBS:=h_ hbs
 clear hb1 hrd hbs
 go_wp2_with (at_make;refine wpList_make_full _ rfl _ _ 56 rfl w1.heap.size 86 i0 (.int .u64 0) 1 Tryz.underlying56 hi hz0 hz1 _ _ _ _ k rfl rfl (by omega) (by omega) ?b2 ?b3 nl ?_)
 case b2=>rw [hz2];omega
 case b3=>unfold maxLen;omega
 intro w2 yP zB
 have HR2:Hid (zV w2 w1.heap.size 86 (List.replicate k 0)):=h_ (jN yP)
 have vK:Hid (Be w1 w2):=h_ (bR.grown zB nl (fun k h=>by cases h))
 clear yP zB
 go_wp2
 go_loopw [10,11] (fun sv iv wr=>∃ (i a:Nat) (X:List Nat),i≤k∧iv=.int .i64 i∧sv=.int .u64 (a:Int)∧Hid (a<zR)∧Hid (FillAt yc1 gs k i a X)∧Hid (zV wr w1.heap.size 86 X)∧Hid (Be w1 wr)) (fun _ iv _=>k-(intOf iv).toNat)
 case atStart=>exact ⟨0,0,_,Nat.zero_le _,rfl,rfl,h_ (by decide),h_ (FillAt.start _ _ _),HR2,vK⟩
 case round =>
  obtain ⟨i,a,X,hik,rfl,rfl,Ha,HF,HX,HB⟩:=hrel
  have hXl:X.length=k:=HF.out.len hik
  by_cases yay:i<k
  ·obtain ⟨b1,o1,x,rfl,hb1,hc1,hx⟩:=(HRD.out.below HB.out).at yay
   have hx0:=HX.out.cell i (by omega)
   have hf0:=HX.out.free i
   obtain ⟨v,HV⟩:=ey ((a+x)%zR)
   have ya9:IntKind.u64.wrap ((a:Int)+(x:Int))=(v:Int):=by
    rw [IntKind.wrap_u64,HV.out];unfold zR;omega
   have HVL:Hid (v<zR):=h_ (by rw [HV.out];exact Nat.mod_lt _ (by decide))
   have HF1:Hid (FillAt yc1 gs k (i+1) v (X.set i v)):=h_ (by
    have h:=HF.out.step hgl.out yay
    rw [hx.out] at h
    rw [HV.out];exact h)
   have HX1:=h_ (HX.out.set i v)
   have HB1':Hid (Be w1 (wr.setCell ⟨w1.heap.size,i,none⟩ (.int .u64 (v:Int)))):=h_ (HB.out.setCell (p:=⟨w1.heap.size,i,none⟩) nl _)
   go_wp2
   go_roundw
   case rel=>exact ⟨i+1,v,X.set i v,by omega,by go_num,rfl,HVL,HF1,HX1,HB1'⟩
   case measure=>simp [intOf];omega
  ·obtain rfl:i=k:=by omega
   have hX:=HF.out.done hgl.out
   have HJ:=h_ (yf0 (some ⟨w1.heap.size,0,none⟩) i i n X q1 r d1 rs wr h1 h2 (Nat.le_trans HKN.out hl) hrl (yn5 HX.out hXl) (by rw [hX];exact yp6 (fun a g=>Nat.mod_lt _ (by decide)) gs 0) HR (HBS.out.below HB.out))
   rw [hX,yF.out] at HJ
   have HBB:=h_ (tr yY.out HB.out)
   clear hX hXl
   go_wp2_with fail
   refine (HJ.out).mono ?_
   rintro e w3 ⟨v3,rfl,hg3⟩
   have HO3:=h_ (yoe hg3.own HBB.out.size)
   have HBF:=h_ (HBB.out.trans ((hg3.below nl (by intro k hk;cases hk)).mono HBB.out.size))
   clear hg3
   go_wp2
   go_ret2
   exact ⟨HBF.out,_,rfl,HO3.out⟩
theorem ygR (p:Oa) (c n:Nat) (l:Lb) (w:World) (h1:1≤n) (h2:n≤8) (hl:l.length≤1048576) (hc:l.length≤c) (hpc:p=none→c=0) (hb:Bs w p l) :
  Calls Tryz.prog 115 #[.slice p l.length c,.int .i64 (n:Int)] w (uR (ybw l n) w):=by
 obtain ⟨i0,hi,hz0,hz1,hz2⟩:=info_parts uF
 have HA:=h_ (ybT p l.length c n w h1 h2 hl)
 obtain ⟨k,HK⟩:=ey (l.length/n)
 have HKN:Hid (k*n≤l.length):=h_ (by rw [HK.out];exact Nat.div_mul_le_self _ _)
 have hkl:k≤l.length:=by rw [HK.out];exact Nat.div_le_self _ _
 have hq0:(l.length:Int)/(n:Int)=(k:Int):=by rw [HK.out];simp
 obtain ⟨len,HL⟩:=ey (l.length)
 have Hb:=h_ hb
 have Hpc:=h_ hpc
 rw [← HL.out] at hl hc HA hq0 hkl ⊢
 have hn1:1≤(n:Int):=by omega
 have hn8:(n:Int)≤8:=by omega
 have hlen:(len:Int)≤1048576:=by omega
 have hki:(k:Int)≤1048576:=by omega
 clear hb h1 h2 hpc
 go_in
 go_wp2_with fail
 refine (HA.out).mono ?_
 rintro e w' ⟨rfl,rfl⟩
 go_wp2_with (at_make;refine wpList_make_own _ rfl _ _ 39 rfl w.heap.size 5 i0 (.int .u8 0) 1 Tryz.underlying39 hi hz0 hz1 _ _ _ len rfl rfl ?b1 ?b2 ?b3 nl ?_)
 case b1=>omega
 case b2=>rw [hz2];omega
 case b3=>unfold maxLen;omega
 intro w1 yP zB
 have HG0:Hid (Grew w.heap.size w (.slice none 0 0) [] w1 (.slice (some ⟨w.heap.size,0,none⟩) 0 len)):=h_ ⟨yP,zB,.inr ⟨_,rfl,Nat.le_refl _⟩⟩
 clear yP zB
 go_wp2
 go_loopw [8,9] (fun vr jv wr=>∃ (j:Nat) (X:Lb),j≤k∧jv=.int .i64 j∧Hid (X=ybZ l k n j)∧Hid (Grew w.heap.size w (.slice none 0 0) X wr vr)) (fun _ jv _=>k-(intOf jv).toNat)
 case atStart=>exact ⟨0,[],Nat.zero_le _,rfl,rfl,HG0⟩
 case round =>
  obtain ⟨j,X,hj,rfl,hX,HG⟩:=hrel
  by_cases hjn:j<k
  ·have hX0:Hid (X=ybZ l k n j++yey l k j 0):=h_ (by rw [yey,List.append_nil];exact hX.out)
   have hjn':(j:Int)<k:=by omega
   go_wp2
   go_loopw [8,10] (fun vr iv wr=>∃ (i:Nat) (Y:Lb),i≤n∧iv=.int .i64 i∧Hid (Y=ybZ l k n j++yey l k j i)∧Hid (Grew w.heap.size w (.slice none 0 0) Y wr vr)) (fun _ iv _=>n-(intOf iv).toNat)
   case atStart=>exact ⟨0,X,Nat.zero_le _,rfl,hX0,HG⟩
   case round =>
    obtain ⟨i,Y,hik,rfl,hY,HGi⟩:=hrel
    by_cases yay:i<n
    ·have hcl:i*k+j<l.length:=Nat.lt_of_lt_of_le (yaW yay hjn) (by rw [Nat.mul_comm];exact HKN.out)
     obtain ⟨b1,o1,rfl,hb1,hc1⟩:=ydT (Hb.out.below (HGi.out.below nl (by intro k hk;cases hk))) hcl
     obtain ⟨x,HX⟩:∃ x:UInt8,Hid (x=l.getD (i*k+j) 0):=⟨_,rfl⟩
     obtain ⟨t,HT⟩:∃ t:Nat,Hid (t=i*k):=⟨_,rfl⟩
     rw [← HX.out,← HT.out] at hc1
     have hti:(i:Int)*(k:Int)=(t:Int):=by rw [HT.out];simp
     have htl:t+j<len:=by rw [HT.out,HL.out];exact hcl
     have hbl:Hid (Y.length+1≤maxLen∧(Y.length+1)*1≤140737488355328∧w.heap.size≤wr.heap.size+1):=h_ (by
      have h3:=HGi.out.grown.size
      rw [hY.out,List.length_append,jC,yad]
      have h4:j*n≤1048576*8:=Nat.mul_le_mul (by omega) (by omega)
      unfold maxLen;omega)
     go_wp2_with (at_builtin;refine wpList_append_own_at _ rfl (.tmp 34) (.tmp 43) 39 rfl w.heap.size 5 i0 (.int .u8 0) 1 1 Tryz.underlying39 hi hz0 hz1 hz2 rfl (by decide) _ _ _ rfl ((HGi.out.own).alloc _) ⟨_,0,none⟩ 1 1 [.int .u8 (x.toNat:Int)] rfl rfl (cell_one_new _ _ _) (by intro u hu;simp at hu;subst hu;rfl) hbl.out.1 hbl.out.2.1 (by simp;exact hbl.out.2.2) ?_)
     intro v5 w5 yM yH _ uS
     have HG5:=h_ (HGi.out.next rfl yM yH uS)
     have hY5:Hid (Y++[x]=ybZ l k n j++yey l k j (i+1)):=h_ (by rw [hY.out,List.append_assoc,HX.out,yey])
     clear yM yH uS
     go_wp2
     go_roundw
     case rel=>exact ⟨i+1,Y++[x],by omega,by go_num,hY5,HG5⟩
     case measure=>simp [intOf];omega
    ·obtain rfl:i=n:=by omega
     go_wp2
     go_roundw
     case rel=>exact ⟨j+1,Y,by omega,by go_num,hY,HGi⟩
     case measure=>simp [intOf];omega
  ·obtain rfl:j=k:=by omega
   obtain ⟨t,HT⟩:∃ t:Nat,Hid (t=j*n):=⟨_,rfl⟩
   have hti:(j:Int)*(n:Int)=(t:Int):=by rw [HT.out];simp
   have htl:t≤len:=by rw [HT.out,HL.out];exact HKN.out
   have hsh:Hid (X++l.drop t=ybw l n):=h_ (by rw [hX.out,HT.out,HK.out];rfl)
   have hbw:Hid (Be w wr):=h_ (HG.out.below nl (by intro k hk;cases hk))
   have Hb2:=h_ (Hb.out.below hbw.out)
   have hXl:Hid (X.length≤8388608):=h_ (by
    rw [hX.out,jC]
    exact Nat.le_trans (Nat.mul_le_mul (show j≤1048576 by omega) (show n≤8 by omega)) (by decide))
   obtain ⟨qo,co,rfl,-,-⟩:=zA HG.out.own
   obtain ⟨xl,hxl⟩:=ey (X.length)
   have hxi:(xl:Int)≤8388608:=by have:=hXl.out;rw [hxl.out];omega
   rw [← hxl.out] at HG ⊢
   have yP:=h_ HG.out.own
   rw [← hxl.out] at yP
   have yF:Hid (∀ v' w',Grew w.heap.size wr (.slice qo xl co) (X++l.drop t) w' v'→uR (ybw l n) w (.returned (.tuple #[v',.int .i64 0])) w'):=h_ (fun v' w' hg=>by
    rw [← hsh.out]
    exact ⟨(HG.out.trans hg).below nl (by intro k hk;cases hk),_,rfl,hg.own⟩)
   have hdl:Hid ((l.drop t).length=len-t):=h_ (by rw [List.length_drop,HL.out])
   have hlm:Hid (xl+(len-t)≤140737488355328∧w.heap.size≤wr.heap.size):=h_ ⟨by omega,hbw.out.size⟩
   cases p with
   | none =>
    obtain rfl:c=0:=Hpc.out rfl
    obtain rfl:len=0:=by omega
    obtain rfl:t=0:=by omega
    have hbs:Hid (Bs wr none (l.drop 0)):=h_ (by rw [List.eq_nil_of_length_eq_zero HL.out.symm];exact Bs.nil _ _)
    go_wp2_with (at_builtin;refine yQ rfl (.tmp 45) (.tmp 50) rfl w.heap.size _ xl X rfl hxl.out yP.out none 0 0 (l.drop 0) rfl hdl.out hbs.out hlm.out.1 hlm.out.2 ?_)
    intro v5 w5 hg5
    have HE:=h_ (yF.out v5 w5 hg5)
    clear hg5
    go_wp2
    go_ret2
    exact HE.out
   | some ad =>
    by_cases hl0:len=0
    ·subst hl0
     obtain rfl:t=0:=by omega
     obtain ⟨b0,off,sp⟩:=ad
     have hd0:Hid (l.drop 0=[]):=h_ (by rw [List.eq_nil_of_length_eq_zero HL.out.symm];rfl)
     rw [hd0.out,List.append_nil] at yF
     rw [hd0.out] at hdl
     go_wp2_with (at_builtin;refine yQ rfl (.tmp 45) (.tmp 50) rfl w.heap.size _ xl X rfl hxl.out yP.out _ 0 _ [] rfl hdl.out (Bs.nil _ _) hlm.out.1 hlm.out.2 ?_)
     intro v5 w5 hg5
     have HE:=h_ (yF.out v5 w5 hg5)
     clear hg5
     go_wp2
     go_ret2
     exact HE.out
    ·obtain ⟨b0,off,had,-,-⟩:=ydT Hb2.out (t:=0) (by rw [← HL.out];omega)
     cases had
     by_cases hct:c=t
     ·subst hct
      obtain rfl:len=c:=by omega
      have hd0:Hid (l.drop len=[]):=h_ (by rw [HL.out];exact List.drop_length)
      rw [hd0.out,List.append_nil] at yF
      rw [hd0.out] at hdl
      go_wp2_with (at_builtin;refine yQ rfl (.tmp 45) (.tmp 50) rfl w.heap.size _ xl X rfl hxl.out yP.out _ 0 _ [] rfl rfl (Bs.nil _ _) (by have:=hlm.out.1;omega) hlm.out.2 ?_)
      intro v5 w5 hg5
      have HE:=h_ (yF.out v5 w5 hg5)
      clear hg5
      go_wp2
      go_ret2
      exact HE.out
     ·have hbs:Hid (Bs wr (some ⟨b0,off+t,none⟩) (l.drop t)):=h_ (vH Hb2.out t (by rw [← HL.out];exact htl) rfl)
      go_wp2_with (at_builtin;refine yQ rfl (.tmp 45) (.tmp 50) rfl w.heap.size _ xl X rfl hxl.out yP.out _ (len-t) _ (l.drop t) rfl hdl.out hbs.out hlm.out.1 hlm.out.2 ?_)
      intro v5 w5 hg5
      have HE:=h_ (yF.out v5 w5 hg5)
      clear hg5
      go_wp2
      go_ret2
      exact HE.out
theorem ykr (l:Lb) {n:Nat}:(yjc l n).length=l.length:=yf9 _ _ _ _ _ (Nat.div_mul_le_self _ _)
def zL (r:Option Lb) (w:World) (e:Ending) (w':World):Prop :=
 match r with
 | some L=>yez L L.length w e w'
 | none=>Be w w'∧∃ x:Int,x≠0∧e=.returned (.tuple #[.slice none 0 0,.int .i64 x])
theorem zL.same {r:Option Lb} {w W w':World} {e:Ending} (h:zL r W e w') (hb:Be w W):∃ (v:Value) (z:Int),e=.returned (.tuple #[v,.int .i64 z])∧Hid (zL r w (.returned (.tuple #[v,.int .i64 z])) w'):=by
 cases r with
 | some L =>
  obtain ⟨h1,q,d,rfl,h3⟩:=h
  exact ⟨_,_,rfl,h_ ⟨tr hb h1,q,d,rfl,h3⟩⟩
 | none =>
  obtain ⟨h1,x,hx,rfl⟩:=h
  exact ⟨_,_,rfl,h_ ⟨tr hb h1,x,hx,rfl⟩⟩
theorem zL.bad {w w':World} {e:Ending} (h:yb5 w e w'):zL none w e w':=⟨h.1,5,by decide,h.2⟩
theorem zL.row {L:Lb} {w w':World} {e:Ending} (h:uR L w e w'):zL (some L) w e w':=h.bc rfl
theorem zL.ud {l:Lb} {w w':World} {e:Ending} (h:yaK l w e w'):zL (match und [] l with|some L=>if L.length≤1048576 then some L else none|none=>none) w e w':=by
 rcases h with ⟨L,h1,h2,h3⟩|⟨h1,h2,h3⟩
 ·rw [h1];show zL (if L.length≤1048576 then some L else none) w e w'
  rw [if_pos h2];exact h3
 ·cases hu:und [] l with
  | none=>exact ⟨h2,h3⟩
  | some L =>
        show zL (if L.length≤1048576 then some L else none) w e w'
        rw [if_neg (by have:=h1 L hu;omega)];exact ⟨h2,h3⟩
theorem ysj (kk:Int) (ff:Nat) (n:Int) (X:ByteArray) (p:Oa) (len c:Nat) (r:Option Lb) (w:World) (hkk:(kk=2∧ff=109)∨(kk=3∧ff=110)∨(kk=5∧ff=111))
  (hc:∀ W,Be w W→Calls Tryz.prog ff #[.slice p len c,.int .i64 n] W (zL r W)) :
  Calls Tryz.prog 61 #[.agg #[.int .i64 kk,.int .i64 n,.string X],.slice p len c] w (zL r w):=by
 obtain ⟨W1,vA⟩:∃ W1,Hid (w.alloc (.cells #[.int .i64 kk,.int .i64 n,.string X] 45)=W1):=⟨_,h_ rfl⟩
 have yY:Hid (Be w W1):=h_ (by rw [← vA.out];exact bR.alloc nl _)
 have HC:=h_ (hc W1 yY.out)
 clear hc
 rcases hkk with ⟨rfl,rfl⟩|⟨rfl,rfl⟩|⟨rfl,rfl⟩
 all_goals
  go_in
  go_wp2_with fail
  try rw [vA.out]
  refine (HC.out).mono ?_
  intro e w2 hp
  obtain ⟨v,z,rfl,HF⟩:=hp.same yY.out
  go_wp2
  go_ret2
  exact HF.out
theorem ywR (n:Int) (X:ByteArray) (p:Oa) (len c:Nat) (r:Option Lb) (w:World)
  (hc:∀ W,Be w W→Calls Tryz.prog 112 #[.slice p len c] W (zL r W)) :
  Calls Tryz.prog 61 #[.agg #[.int .i64 4,.int .i64 n,.string X],.slice p len c] w (zL r w):=by
 obtain ⟨W1,vA⟩:∃ W1,Hid (w.alloc (.cells #[.int .i64 4,.int .i64 n,.string X] 45)=W1):=⟨_,h_ rfl⟩
 have yY:Hid (Be w W1):=h_ (by rw [← vA.out];exact bR.alloc nl _)
 have HC:=h_ (hc W1 yY.out)
 clear hc
 go_in
 go_wp2_with fail
 try rw [vA.out]
 refine (HC.out).mono ?_
 intro e w2 hp
 obtain ⟨v,z,rfl,HF⟩:=hp.same yY.out
 go_wp2
 go_ret2
 exact HF.out
theorem ywS (n:Int) (X:ByteArray) (p:Oa) (len c:Nat) (L:Lb) (w:World) (hL:Hid (L.length=len)) (hc:len≤c) (hn:p=none→c=0) (ho:Bs w p L) :
  Calls Tryz.prog 61 #[.agg #[.int .i64 1,.int .i64 n,.string X],.slice p len c] w (zL (some L) w):=by
 have HF:Hid (zL (some L) w (.returned (.tuple #[.slice p len c,.int .i64 0])) (w.alloc (.cells #[.int .i64 1,.int .i64 n,.string X] 45))):=h_ (by
  have hb:Be w (w.alloc (.cells #[.int .i64 1,.int .i64 n,.string X] 45)):=bR.alloc nl _
  exact ⟨hb,p,c,by rw [hL.out],h_ (by rw [hL.out];exact hc),h_ hn,ho.below hb⟩)
 clear ho hc hn
 go_in
 go_wp2
 go_ret2
 exact HF.out
theorem ylw (kk:Int) (ff:Nat) (n:Int) (X:ByteArray) (p:Oa) (len c:Nat) (r:Option Lb) (w:World) (hkk:(kk=2∧ff=114)∨(kk=3∧ff=115)∨(kk=5∧ff=116))
  (hc:∀ W,Be w W→Calls Tryz.prog ff #[.slice p len c,.int .i64 n] W (zL r W)) :
  Calls Tryz.prog 63 #[.agg #[.int .i64 kk,.int .i64 n,.string X],.slice p len c] w (zL r w):=by
 obtain ⟨W1,vA⟩:∃ W1,Hid (w.alloc (.cells #[.int .i64 kk,.int .i64 n,.string X] 45)=W1):=⟨_,h_ rfl⟩
 have yY:Hid (Be w W1):=h_ (by rw [← vA.out];exact bR.alloc nl _)
 have HC:=h_ (hc W1 yY.out)
 clear hc
 rcases hkk with ⟨rfl,rfl⟩|⟨rfl,rfl⟩|⟨rfl,rfl⟩
 all_goals
  go_in
  go_wp2_with fail
  try rw [vA.out]
  refine (HC.out).mono ?_
  intro e w2 hp
  obtain ⟨v,z,rfl,HF⟩:=hp.same yY.out
  go_wp2
  go_ret2
  exact HF.out
theorem yv8 (n:Int) (X:ByteArray) (p:Oa) (len c:Nat) (r:Option Lb) (w:World)
  (hc:∀ W,Be w W→Calls Tryz.prog 117 #[.slice p len c] W (zL r W)) :
  Calls Tryz.prog 63 #[.agg #[.int .i64 4,.int .i64 n,.string X],.slice p len c] w (zL r w):=by
 obtain ⟨W1,vA⟩:∃ W1,Hid (w.alloc (.cells #[.int .i64 4,.int .i64 n,.string X] 45)=W1):=⟨_,h_ rfl⟩
 have yY:Hid (Be w W1):=h_ (by rw [← vA.out];exact bR.alloc nl _)
 have HC:=h_ (hc W1 yY.out)
 clear hc
 go_in
 go_wp2_with fail
 try rw [vA.out]
 refine (HC.out).mono ?_
 intro e w2 hp
 obtain ⟨v,z,rfl,HF⟩:=hp.same yY.out
 go_wp2
 go_ret2
 exact HF.out
theorem yv9 (n:Int) (X:ByteArray) (p:Oa) (len c:Nat) (L:Lb) (w:World) (hL:Hid (L.length=len)) (hc:len≤c) (hn:p=none→c=0) (ho:Bs w p L) :
  Calls Tryz.prog 63 #[.agg #[.int .i64 1,.int .i64 n,.string X],.slice p len c] w (zL (some L) w):=by
 have HF:Hid (zL (some L) w (.returned (.tuple #[.slice p len c,.int .i64 0])) (w.alloc (.cells #[.int .i64 1,.int .i64 n,.string X] 45))):=h_ (by
  have hb:Be w (w.alloc (.cells #[.int .i64 1,.int .i64 n,.string X] 45)):=bR.alloc nl _
  exact ⟨hb,p,c,by rw [hL.out],h_ (by rw [hL.out];exact hc),h_ hn,ho.below hb⟩)
 clear ho hc hn
 go_in
 go_wp2
 go_ret2
 exact HF.out
theorem ync (x:Sg) (l:Lb) (hok:yd5 x=true) (hl:l.length≤1048576):∃ r:Option Lb,(∀ L,r=some L→L.length≤1048576) ∧
  (∀ p c W,l.length≤c→(p=none→c=0)→Bs W p l→Calls Tryz.prog 61 #[.agg #[.int .i64 x.1,.int .i64 x.2.1,.string ⟨x.2.2.toArray⟩],.slice p l.length c] W (zL r W)) ∧
  (∀ p c W,l.length≤c→(p=none→c=0)→Bs W p l→Calls Tryz.prog 63 #[.agg #[.int .i64 x.1,.int .i64 x.2.1,.string ⟨x.2.2.toArray⟩],.slice p l.length c] W (zL r W)):=by
 obtain ⟨k,n,s⟩:=x
 rcases yrd hok with (h1|h4)|⟨h2,h3,h8⟩
 ·have h1:k=1:=h1
  subst h1
  exact ⟨some l,fun L e=>by cases e;exact hl,fun p c W h1 h2 h3=>ywS n _ p l.length c l W (h_ rfl) h1 h2 h3,fun p c W h1 h2 h3=>yv9 n _ p l.length c l W (h_ rfl) h1 h2 h3⟩
 ·have h4:k=4:=h4
  subst h4
  refine ⟨_,?_,fun p c W h1 h2 h3=>ywR n _ p l.length c _ W (fun W' hW=>(yl1 p c l.length l W' (h_ rfl) h1 (h3.below hW)).mono fun _ _ h=>zL.ud h),fun p c W h1 h2 h3=>yv8 n _ p l.length c _ W (fun W' hW=>(yku p c l W' h1 (h3.below hW)).mono fun _ _ h=>zL.ud h)⟩
  intro L e
  cases hu:und [] l with
  | none=>rw [hu] at e;cases e
  | some L' =>
   rw [hu] at e
   by_cases h:L'.length≤1048576
   ·rw [show (match some L' with|some L=>if L.length≤1048576 then some L else none|none=>none)=some L' from if_pos h] at e
    cases e;exact h
   ·rw [show (match some L' with|some L=>if L.length≤1048576 then some L else none|none=>(none:Option Lb))=none from if_neg h] at e
    cases e
 ·have h3:1≤n:=h3
  have h8:n≤8:=h8
  obtain ⟨m,rfl⟩:∃ m:Nat,n=m:=⟨n.toNat,by omega⟩
  have m1:1≤m:=by omega
  have m8:m≤8:=by omega
  have h2:k=2∨k=3∨k=5:=h2
  rcases h2 with rfl|rfl|rfl
  ·exact ⟨some (yjc l m),fun L e=>by cases e;rw [ykr];exact hl,fun p c W h1 h2 h3=>ysj 2 109 m _ p l.length c _ W (.inl ⟨rfl,rfl⟩) (fun W' hW=>(ym3 p c m l W' m1 m8 hl h1 h2 (h3.below hW)).mono fun _ _ h=>zL.row h),
    fun p c W h1 h2 h3=>ylw 2 114 m _ p l.length c _ W (.inl ⟨rfl,rfl⟩) (fun W' hW=>(ykq p c m l.length l W' (h_ rfl) m1 m8 hl (h_ h1) (h_ h2) (h3.below hW)).mono fun _ _ h=>zL.row h)⟩
  ·exact ⟨some (ybw l m),fun L e=>by cases e;rw [ya3];exact hl,fun p c W h1 h2 h3=>ysj 3 110 m _ p l.length c _ W (.inr (.inl ⟨rfl,rfl⟩)) (fun W' hW=>(yiR p c m l W' m1 m8 hl (h3.below hW)).mono fun _ _ h=>zL.row h),
    fun p c W h1 h2 h3=>ylw 3 115 m _ p l.length c _ W (.inr (.inl ⟨rfl,rfl⟩)) (fun W' hW=>(ygR p c m l W' m1 m8 hl h1 h2 (h3.below hW)).mono fun _ _ h=>zL.row h)⟩
  ·by_cases hno:yk5 l m
   ·exact ⟨none,fun L e=>(by cases e),fun p c W h1 h2 h3=>ysj 5 111 m _ p l.length c _ W (.inr (.inr ⟨rfl,rfl⟩)) (fun W' hW=>(ygQ p c m l.length l W' m1 m8 (h_ rfl) hl h1 hno (h3.below hW)).mono fun _ _ h=>zL.bad h),
     fun p c W h1 h2 h3=>ylw 5 116 m _ p l.length c _ W (.inr (.inr ⟨rfl,rfl⟩)) (fun W' hW=>(ygk p c m l.length l W' m1 m8 (h_ rfl) hl h1 hno (h3.below hW)).mono fun _ _ h=>zL.bad h)⟩
   ·obtain ⟨L,hL,hP⟩:∃ L:Lb,L.length≤1048576∧vJ L m=l:=by
     refine Classical.not_forall.1 hno |>.elim fun L h=>?_
     obtain ⟨a,b⟩:=Classical.not_imp.1 h
     exact ⟨L,a,Classical.not_not.1 b⟩
    exact ⟨some L,fun L' e=>by cases e;exact hL,fun p c W h1 h2 h3=>ysj 5 111 m _ p l.length c _ W (.inr (.inr ⟨rfl,rfl⟩)) (fun W' hW=>(yg8 p c m l.length L.length L l W' (h_ hP.symm) m1 m8 (h_ rfl) hL (h_ rfl) hl (h_ h1) (h3.below hW)).mono fun _ _ h=>h),
     fun p c W h1 h2 h3=>ylw 5 116 m _ p l.length c _ W (.inr (.inr ⟨rfl,rfl⟩)) (fun W' hW=>(ygj p c m l.length L.length L l W' (h_ hP.symm) m1 m8 (h_ rfl) hL (h_ rfl) hl (h_ h1) (h3.below hW)).mono fun _ _ h=>h)⟩
noncomputable def bkL (x:Sg) (l:Lb):Option Lb :=
 open Classical in if h:yd5 x=true∧l.length≤1048576 then Classical.choose (ync x l h.1 h.2) else none
theorem yju {x:Sg} {l:Lb} (hok:yd5 x=true) (hl:l.length≤1048576):(∀ L,bkL x l=some L→L.length≤1048576) ∧
  (∀ p c W,l.length≤c→(p=none→c=0)→Bs W p l→Calls Tryz.prog 61 #[.agg #[.int .i64 x.1,.int .i64 x.2.1,.string ⟨x.2.2.toArray⟩],.slice p l.length c] W (zL (bkL x l) W)) ∧
  (∀ p c W,l.length≤c→(p=none→c=0)→Bs W p l→Calls Tryz.prog 63 #[.agg #[.int .i64 x.1,.int .i64 x.2.1,.string ⟨x.2.2.toArray⟩],.slice p l.length c] W (zL (bkL x l) W)):=by
 unfold bkL
 rw [dif_pos ⟨hok,hl⟩]
 exact Classical.choose_spec (ync x l hok hl)
noncomputable def bkS (ss:List Sg):Nat→Lb→Option Lb
 | 0,l=>some l
 | j+1,l=>match bkL (ss.getD j (0,0,[])) l with
  | some L=>bkS ss j L
  | none=>none
theorem yjv {ss:List Sg} {j:Nat} {l L:Lb} (h:bkL (ss.getD j (0,0,[])) l=some L):bkS ss (j+1) l=bkS ss j L:=by
 rw [bkS,h]
theorem yjw {ss:List Sg} {j:Nat} {l:Lb} (h:bkL (ss.getD j (0,0,[])) l=none):bkS ss (j+1) l=none:=by
 rw [bkS,h]
end Go.Proofs.YtgepehlpjpccaaaGreatDoor
