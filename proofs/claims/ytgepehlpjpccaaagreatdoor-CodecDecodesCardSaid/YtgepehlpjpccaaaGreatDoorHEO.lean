/- Contracts. -/
import Derived.Test.YtgepehlpjpccaaaGreatDoorHEN
set_option maxHeartbeats 4000000
set_option maxRecDepth 100000
namespace Go.Proofs.YtgepehlpjpccaaaGreatDoor
open Go.RowKit
open Go.Lib
theorem ylV (b0 off len0 c0 n k:Nat) (l:Lb) (w:World) (h1:1≤n) (h2:n≤8) (h4:4≤len0) (hc:len0≤c0) (hlm:len0≤1048590) (hl:Hid (l.length=len0)) (hk4:Hid (nb (l.take 4)=k)) (hcap:5+n<c0) (wd:Nat) (hk0:0<k) (hk:k≤1048576) (hh:5+n≤len0) (hwv:Hid ((l.getD (4+n) 0).toNat=wd)) (hw:wd≤64) (hs:len0-(5+n)<(k*wd+7)/8) (hb:Bs w (some ⟨b0,off,none⟩) l) :
  Calls Tryz.prog 170 #[.slice (some ⟨b0,off,none⟩) len0 c0,.int .i64 (n:Int)] w (ycD w):=by
 have hll:=hl.out
 have hn0:1≤(n:Int):=by omega
 have hn8:(n:Int)≤8:=by omega
 have i0':¬ (len0:Int)<4:=by omega
 have i0:4≤(len0:Int):=by omega
 have i0c:4≤(c0:Int):=by omega
 have i0d:(len0:Int)≤(c0:Int):=by omega
 have i0l:(len0:Int)≤1048590:=by omega
 obtain ⟨n4,GG⟩:=ey (4+n)
 obtain ⟨n5,HN5⟩:=ey (5+n)
 have hn4:4+(n:Int)=(n4:Int):=by rw [GG.out];omega
 have hn5:5+(n:Int)=(n5:Int):=by rw [HN5.out];omega
 have yje:(n4:Int)<(n5:Int):=by omega
 have yjf:4≤(n4:Int):=by omega
 have yjg:(n5:Int)≤13:=by omega
 have HN:=h_ (vC (some ⟨b0,off,none⟩) c0 (l.take 4) w (by rw [List.length_take];omega) (by have h:=jK hb 0 4 (by omega) (Nat.add_zero off).symm;rwa [List.drop_zero] at h))
 rw [show (l.take 4).length=4 by rw [List.length_take];omega,hk4.out] at HN
 have hkb:k<4294967296:=by
  have h:=GQ (l.take 4)
  rw [hk4.out,List.length_take,Nat.min_eq_left (by omega)] at h;exact h
 have ycn:(k:Int)≤4294967295:=by omega
 have hkw:IntKind.i64.wrap (k:Int)=(k:Int):=by rw [IntKind.wrap_i64];omega
 have hki:0<(k:Int):=by omega
 have ydr:¬ (k:Int)=0:=by omega
 have hcw:Hid (∀ W,Be w W→W.cell? ⟨b0,off+n4,none⟩=some (.int .u8 (wd:Int))):=h_ (fun W hW=>by
  rcases hb.below hW with h0|⟨b,o,e,h3,h4⟩
  ·omega
  ·injection e with e;injection e with e1 e2;subst e1;subst e2
   have h5:=h4 (4+n) (by omega)
   rw [GG.out]
   rwa [hwv.out] at h5)
 have ysl:=hcw.out w bR
 have hwi:(wd:Int)≤255:=by
  have:=(l.getD (4+n) 0).toNat_lt
  rw [hwv.out] at this;omega
 have hww:IntKind.i64.wrap (wd:Int)=(wd:Int):=by rw [IntKind.wrap_i64];omega
 have hg:¬ 1048576<(k:Int):=by omega
 have hgd:decide (1048576<(k:Int))=false:=decide_eq_false hg
 have hhi:¬ (len0:Int)<(n5:Int):=by omega
 have ysm:(n4:Int)<(len0:Int):=by omega
 have hhd:decide (len0<n5)=false:=decide_eq_false (by omega)
 have hwg:¬ 64<(wd:Int):=by omega
 have hwd:decide (64<(wd:Int))=false:=decide_eq_false hwg
 have yuz:n4-4=n:=by rw [GG.out];omega
 have i4:(n4:Int)≤(c0:Int):=by omega
 have i0e:4<(c0:Int):=by omega
 have hc4':¬ c0=4:=by omega
 have hw4:IntKind.i64.wrap (n4:Int)=(n4:Int):=by rw [IntKind.wrap_i64];omega
 have hmx:max (n4:Int) 0=(n4:Int):=by omega
 obtain ⟨m,HM⟩:=ey (nb ((l.drop 4).take n))
 have hmi:(m:Int)≤18446744073709551615:=by
  have h5:m<18446744073709551616:=by rw [HM.out];exact ybu (by rw [List.length_take];omega)
  omega
 have HNn:Hid (∀ W,Be w W→Calls Tryz.prog 120 #[.slice (some ⟨b0,off+4,none⟩) n (c0-4)] W (Qp (.int .u64 (m:Int)) W)):=h_ (fun W hW=>by
  have h:=vC (some ⟨b0,off+4,none⟩) (c0-4) ((l.drop 4).take n) W (by rw [List.length_take,List.length_drop];omega) (jK (hb.below hW) 4 n (by omega) rfl)
  rwa [show ((l.drop 4).take n).length=n by rw [List.length_take,List.length_drop];omega,← HM.out] at h)
 obtain ⟨TT,GY⟩:=ey (k*wd)
 have GJ:(k:Int)*(wd:Int)=(TT:Int):=by rw [GY.out];simp
 have hTT:(TT:Int)≤67108864:=by
  have h5:k*wd≤1048576*64:=Nat.mul_le_mul hk (by omega)
  rw [GY.out];omega
 obtain ⟨s,HS⟩:=ey ((k*wd+7)/8)
 have hsz:((TT:Int)+7)/8=(s:Int):=by rw [HS.out,GY.out];omega
 obtain ⟨l2,HL2⟩:=ey (l.drop (5+n))
 obtain ⟨len2,HE2⟩:=ey (len0-n5)
 have hl2:Hid (l2.length=len2):=h_ (by rw [HL2.out,List.length_drop,HE2.out,HN5.out];omega)
 have f1:len0-n5=len2:=HE2.out.symm
 have i2l:(len2:Int)≤1048590:=by rw [HE2.out];omega
 have i5:(n5:Int)≤(len0:Int):=by omega
 have hBd:Be w w.drew:=(Below.refl _ w).drew
 obtain ⟨c2,HC2⟩:=ey (c0-n5)
 have f1c:c0-n5=c2:=HC2.out.symm
 have i5c:(n5:Int)<(c0:Int):=by have:=HN5.out;omega
 have i2c:(len2:Int)≤(c2:Int):=by rw [HE2.out,HC2.out];omega
 have hb2:Hid (∀ W,Be w W→Bs W (some ⟨b0,off+n5,none⟩) l2):=h_ (fun W hW=>by rw [HL2.out];exact vH (hb.below hW) (5+n) (by omega) (by rw [HN5.out]))
 have i2':(len2:Int)<(s:Int):=by rw [HE2.out,HS.out,HN5.out];omega
 clear hb hll hkb hh hcap hs HM
 go_in
 go_wp2_with fail
 refine (HN.out).mono ?_
 rintro e w' ⟨rfl,rfl⟩
 go_wp2_with fail
 refine wp_region_noPanic ?_
 refine wp_region_held_drew (S:=fun W'=>W'.cell? ⟨b0,off+n4,none⟩=some (.int .u8 (wd:Int))) (by kernel_rfl) (hcw.out _ hBd) (fun hHeld=>?_)
 refine tk (i:=0) (v:=?v1) rfl (Or.inl ⟨by rfl,?hy1⟩) ?rest1
 case hy1 =>
  intro W' hSw
  obtain e9:=hSw
  go_simp
  with_reducible rfl
 simp only [sl]
 refine tk (i:=1) (v:=?v2) rfl (Or.inl ⟨by rfl,?hy2⟩) ?rest2
 case hy2 =>
  intro W' hSw
  obtain e9:=hSw
  go_simp
  with_reducible rfl
 simp only [sl]
 refine tk (i:=2) (v:=?v3) rfl (Or.inl ⟨by rfl,?hy3⟩) ?rest3
 case hy3 =>
  intro W' hSw
  obtain e9:=hSw
  go_simp
  with_reducible rfl
 simp only [sl]
 refine tk (i:=3) (v:=?v4) rfl (Or.inl ⟨by rfl,?hy4⟩) ?rest4
 case hy4 =>
  intro W' hSw
  obtain e9:=hSw
  go_simp
  with_reducible rfl
 simp only [sl]
 refine tk (i:=5) (v:=?v5) rfl (Or.inl ⟨by rfl,?hy5⟩) ?rest5
 case hy5 =>
  intro W' hSw
  obtain e9:=hSw
  go_simp
  with_reducible rfl
 simp only [sl]
 refine tk (i:=6) (v:=?v6) rfl (Or.inl ⟨by rfl,?hy6⟩) ?rest6
 case hy6 =>
  intro W' hSw
  obtain e9:=hSw
  go_simp
  with_reducible rfl
 simp only [sl]
 refine tk (i:=7) (v:=?v7) rfl (Or.inl ⟨by rfl,?hy7⟩) ?rest7
 case hy7 =>
  intro W' hSw
  obtain e9:=hSw
  go_simp
  with_reducible rfl
 simp only [sl]
 refine tk (i:=8) (v:=?v8) rfl (Or.inl ⟨by rfl,?hy8⟩) ?rest8
 case hy8 =>
  intro W' hSw
  obtain e9:=hSw
  go_simp
  with_reducible rfl
 simp only [sl]
 refine tk (i:=9) (v:=?v9) rfl (Or.inl ⟨by rfl,?hy9⟩) ?rest9
 case hy9 =>
  intro W' hSw
  obtain e9:=hSw
  go_simp
  with_reducible rfl
 simp only [sl]
 refine tk (i:=10) (v:=?v10) rfl (Or.inl ⟨by rfl,?hy10⟩) ?rest10
 case hy10 =>
  intro W' hSw
  obtain e9:=hSw
  go_simp
  with_reducible rfl
 simp only [sl]
 refine oN (i:=4) rfl fun K hK=>?_
 go_simp
 refine (HNn.out _ hBd).mono ?_
 rintro e W' ⟨rfl,rfl⟩
 refine hK.out _ _ (hcw.out _ hBd) (fun hHeld=>?_)
 clear hK K
 refine oN (i:=11) rfl fun K hK=>?_
 go_simp
 refine hK.out _ _ (hcw.out _ hBd) (fun hHeld=>?_)
 clear hK K
 refine oN (i:=12) rfl fun K hK=>?_
 go_simp
 refine hK.out _ _ (hcw.out _ hBd) (fun hHeld=>?_)
 clear hK K
 refine wpAnyH_done (by kernel_rfl) ?_ _
 refine NoPanic.normal ?_
 clear hHeld
 go_wp2
 go_ret3
 exact ⟨bR.drew,rfl⟩
theorem yqM (b0 off len0 c0 n k:Nat) (l:Lb) (w:World) (h1:1≤n) (h2:n≤8) (h4:4≤len0) (hc:len0≤c0) (hlm:len0≤1048590) (hl:Hid (l.length=len0)) (hk4:Hid (nb (l.take 4)=k)) (hcap:5+n<c0) (wd:Nat) (hk0:0<k) (hk:k≤1048576) (hh:5+n≤len0) (hwv:Hid ((l.getD (4+n) 0).toNat=wd)) (hw:wd≤64) (hs:(k*wd+7)/8≤len0-(5+n)) (hb:Bs w (some ⟨b0,off,none⟩) l) :
  Calls Tryz.prog 170 #[.slice (some ⟨b0,off,none⟩) len0 c0,.int .i64 (n:Int)] w (yaU (unG (rdB (l.drop (5+n))) wd (nb ((l.drop 4).take n)) k) ((l.drop (5+n)).drop ((k*wd+7)/8)) w):=by
 have hll:=hl.out
 have hn0:1≤(n:Int):=by omega
 have hn8:(n:Int)≤8:=by omega
 have i0':¬ (len0:Int)<4:=by omega
 have i0:4≤(len0:Int):=by omega
 have i0c:4≤(c0:Int):=by omega
 have i0d:(len0:Int)≤(c0:Int):=by omega
 have i0l:(len0:Int)≤1048590:=by omega
 obtain ⟨n4,GG⟩:=ey (4+n)
 obtain ⟨n5,HN5⟩:=ey (5+n)
 have hn4:4+(n:Int)=(n4:Int):=by rw [GG.out];omega
 have hn5:5+(n:Int)=(n5:Int):=by rw [HN5.out];omega
 have yje:(n4:Int)<(n5:Int):=by omega
 have yjf:4≤(n4:Int):=by omega
 have yjg:(n5:Int)≤13:=by omega
 have HN:=h_ (vC (some ⟨b0,off,none⟩) c0 (l.take 4) w (by rw [List.length_take];omega) (by have h:=jK hb 0 4 (by omega) (Nat.add_zero off).symm;rwa [List.drop_zero] at h))
 rw [show (l.take 4).length=4 by rw [List.length_take];omega,hk4.out] at HN
 have hkb:k<4294967296:=by
  have h:=GQ (l.take 4)
  rw [hk4.out,List.length_take,Nat.min_eq_left (by omega)] at h;exact h
 have ycn:(k:Int)≤4294967295:=by omega
 have hkw:IntKind.i64.wrap (k:Int)=(k:Int):=by rw [IntKind.wrap_i64];omega
 have hki:0<(k:Int):=by omega
 have ydr:¬ (k:Int)=0:=by omega
 have hcw:Hid (∀ W,Be w W→W.cell? ⟨b0,off+n4,none⟩=some (.int .u8 (wd:Int))):=h_ (fun W hW=>by
  rcases hb.below hW with h0|⟨b,o,e,h3,h4⟩
  ·omega
  ·injection e with e;injection e with e1 e2;subst e1;subst e2
   have h5:=h4 (4+n) (by omega)
   rw [GG.out]
   rwa [hwv.out] at h5)
 have ysl:=hcw.out w bR
 have hwi:(wd:Int)≤255:=by
  have:=(l.getD (4+n) 0).toNat_lt
  rw [hwv.out] at this;omega
 have hww:IntKind.i64.wrap (wd:Int)=(wd:Int):=by rw [IntKind.wrap_i64];omega
 have hg:¬ 1048576<(k:Int):=by omega
 have hgd:decide (1048576<(k:Int))=false:=decide_eq_false hg
 have hhi:¬ (len0:Int)<(n5:Int):=by omega
 have ysm:(n4:Int)<(len0:Int):=by omega
 have hhd:decide (len0<n5)=false:=decide_eq_false (by omega)
 have hwg:¬ 64<(wd:Int):=by omega
 have hwd:decide (64<(wd:Int))=false:=decide_eq_false hwg
 have yuz:n4-4=n:=by rw [GG.out];omega
 have i4:(n4:Int)≤(c0:Int):=by omega
 have i0e:4<(c0:Int):=by omega
 have hc4':¬ c0=4:=by omega
 have hw4:IntKind.i64.wrap (n4:Int)=(n4:Int):=by rw [IntKind.wrap_i64];omega
 have hmx:max (n4:Int) 0=(n4:Int):=by omega
 obtain ⟨m,HM⟩:=ey (nb ((l.drop 4).take n))
 have hmi:(m:Int)≤18446744073709551615:=by
  have h5:m<18446744073709551616:=by rw [HM.out];exact ybu (by rw [List.length_take];omega)
  omega
 have HNn:Hid (∀ W,Be w W→Calls Tryz.prog 120 #[.slice (some ⟨b0,off+4,none⟩) n (c0-4)] W (Qp (.int .u64 (m:Int)) W)):=h_ (fun W hW=>by
  have h:=vC (some ⟨b0,off+4,none⟩) (c0-4) ((l.drop 4).take n) W (by rw [List.length_take,List.length_drop];omega) (jK (hb.below hW) 4 n (by omega) rfl)
  rwa [show ((l.drop 4).take n).length=n by rw [List.length_take,List.length_drop];omega,← HM.out] at h)
 obtain ⟨TT,GY⟩:=ey (k*wd)
 have GJ:(k:Int)*(wd:Int)=(TT:Int):=by rw [GY.out];simp
 have hTT:(TT:Int)≤67108864:=by
  have h5:k*wd≤1048576*64:=Nat.mul_le_mul hk (by omega)
  rw [GY.out];omega
 obtain ⟨s,HS⟩:=ey ((k*wd+7)/8)
 have hsz:((TT:Int)+7)/8=(s:Int):=by rw [HS.out,GY.out];omega
 obtain ⟨l2,HL2⟩:=ey (l.drop (5+n))
 obtain ⟨len2,HE2⟩:=ey (len0-n5)
 have hl2:Hid (l2.length=len2):=h_ (by rw [HL2.out,List.length_drop,HE2.out,HN5.out];omega)
 have f1:len0-n5=len2:=HE2.out.symm
 have i2l:(len2:Int)≤1048590:=by rw [HE2.out];omega
 have i5:(n5:Int)≤(len0:Int):=by omega
 have hBd:Be w w.drew:=(Below.refl _ w).drew
 obtain ⟨c2,HC2⟩:=ey (c0-n5)
 have f1c:c0-n5=c2:=HC2.out.symm
 have i5c:(n5:Int)<(c0:Int):=by have:=HN5.out;omega
 have i2c:(len2:Int)≤(c2:Int):=by rw [HE2.out,HC2.out];omega
 have hb2:Hid (∀ W,Be w W→Bs W (some ⟨b0,off+n5,none⟩) l2):=h_ (fun W hW=>by rw [HL2.out];exact vH (hb.below hW) (5+n) (by omega) (by rw [HN5.out]))
 have hsl:s≤len2:=by rw [HE2.out,HS.out,HN5.out];omega
 have i2:(s:Int)≤(len2:Int):=by omega
 have i2':¬ (len2:Int)<(s:Int):=by omega
 have hdd:decide (len2<s)=false:=decide_eq_false (by omega)
 obtain ⟨len3,HE3⟩:=ey (len2-s)
 have f2:len2-s=len3:=HE3.out.symm
 obtain ⟨rs,HRS⟩:=ey (l2.drop s)
 have hrl:Hid (rs.length=len3):=h_ (by rw [HRS.out,List.length_drop,hl2.out,HE3.out])
 obtain ⟨ti,hi,hz0,hz1,hz2⟩:=info_parts vP
 have e0:nb ((l.drop 4).take n)=m:=HM.out.symm
 have HTL:Hid (k*wd≤8*len2):=h_ (by have:=HS.out;omega)
 rw [e0,← HL2.out,← HS.out,← HRS.out]
 have hb3:Hid (∀ W,Be w W→Bs W (if c2=s then some ⟨b0,off+n5,none⟩ else some ⟨b0,off+n5+s,none⟩) rs):=h_ (fun W hW=>by
  split
  ·exact .inl (by rw [hrl.out,HE3.out];omega)
  ·rw [HRS.out];exact vH (hb2.out W hW) s (by rw [hl2.out];exact hsl) rfl)
 clear hb hll hkb hh hcap hs HM e0 hsl
 go_in
 go_wp2_with fail
 refine (HN.out).mono ?_
 rintro e w' ⟨rfl,rfl⟩
 go_wp2_with fail
 refine wp_region_noPanic ?_
 refine wp_region_held_drew (S:=fun W'=>W'.cell? ⟨b0,off+n4,none⟩=some (.int .u8 (wd:Int))) (by kernel_rfl) (hcw.out _ hBd) (fun hHeld=>?_)
 refine tk (i:=0) (v:=?v11) rfl (Or.inl ⟨by rfl,?hy11⟩) ?rest11
 case hy11 =>
  intro W' hSw
  obtain e9:=hSw
  go_simp
  with_reducible rfl
 simp only [sl]
 refine tk (i:=1) (v:=?v12) rfl (Or.inl ⟨by rfl,?hy12⟩) ?rest12
 case hy12 =>
  intro W' hSw
  obtain e9:=hSw
  go_simp
  with_reducible rfl
 simp only [sl]
 refine tk (i:=2) (v:=?v13) rfl (Or.inl ⟨by rfl,?hy13⟩) ?rest13
 case hy13 =>
  intro W' hSw
  obtain e9:=hSw
  go_simp
  with_reducible rfl
 simp only [sl]
 refine tk (i:=3) (v:=?v14) rfl (Or.inl ⟨by rfl,?hy14⟩) ?rest14
 case hy14 =>
  intro W' hSw
  obtain e9:=hSw
  go_simp
  with_reducible rfl
 simp only [sl]
 refine tk (i:=5) (v:=?v15) rfl (Or.inl ⟨by rfl,?hy15⟩) ?rest15
 case hy15 =>
  intro W' hSw
  obtain e9:=hSw
  go_simp
  with_reducible rfl
 simp only [sl]
 refine tk (i:=6) (v:=?v16) rfl (Or.inl ⟨by rfl,?hy16⟩) ?rest16
 case hy16 =>
  intro W' hSw
  obtain e9:=hSw
  go_simp
  with_reducible rfl
 simp only [sl]
 refine tk (i:=7) (v:=?v17) rfl (Or.inl ⟨by rfl,?hy17⟩) ?rest17
 case hy17 =>
  intro W' hSw
  obtain e9:=hSw
  go_simp
  with_reducible rfl
 simp only [sl]
 refine tk (i:=8) (v:=?v18) rfl (Or.inl ⟨by rfl,?hy18⟩) ?rest18
 case hy18 =>
  intro W' hSw
  obtain e9:=hSw
  go_simp
  with_reducible rfl
 simp only [sl]
 refine tk (i:=9) (v:=?v19) rfl (Or.inl ⟨by rfl,?hy19⟩) ?rest19
 case hy19 =>
  intro W' hSw
  obtain e9:=hSw
  go_simp
  with_reducible rfl
 simp only [sl]
 refine tk (i:=10) (v:=?v20) rfl (Or.inl ⟨by rfl,?hy20⟩) ?rest20
 case hy20 =>
  intro W' hSw
  obtain e9:=hSw
  go_simp
  with_reducible rfl
 simp only [sl]
 refine oN (i:=4) rfl fun K hK=>?_
 go_simp
 refine (HNn.out _ hBd).mono ?_
 rintro e W' ⟨rfl,rfl⟩
 refine hK.out _ _ (hcw.out _ hBd) (fun hHeld=>?_)
 clear hK K
 refine oN (i:=11) rfl fun K hK=>?_
 go_simp
 refine hK.out _ _ (hcw.out _ hBd) (fun hHeld=>?_)
 clear hK K
 refine oN (i:=12) rfl fun K hK=>?_
 go_simp
 refine hK.out _ _ (hcw.out _ hBd) (fun hHeld=>?_)
 clear hK K
 refine wpAnyH_done (by kernel_rfl) ?_ _
 refine NoPanic.normal ?_
 clear hHeld
 go_wp2_with fail
 have HG0:Hid (GrewU w.heap.size w.drew (.slice none 0 0) (unG (rdB l2) wd m 0) w.drew (.slice none 0 0)):=h_ (GrewU.refl (l:=[]) (World.ownsRow_nil w.drew w.heap.size 86 1))
 (try simp only [hsz])
 go_loopw [12,13] (fun vr iv wr=>∃ (i:Nat),i≤k∧iv=.int .i64 i∧Hid (GrewU w.heap.size w.drew (.slice none 0 0) (unG (rdB l2) wd m i) wr vr)) (fun _ iv _=>k-(Go.RowKit.intOf iv).toNat)
 case atStart=>exact ⟨0,Nat.zero_le _,rfl,HG0⟩
 case round =>
  obtain ⟨i,hik,rfl,HG⟩:=hrel
  have hbw:Hid (Be w wr):=h_ (hBd.trans (HG.out.below nl (by intro k hk;cases hk)))
  by_cases yay:i<k
  ·have hilt':(i:Int)<k:=by omega
   obtain ⟨P,HP⟩:=ey (i*wd)
   have hmulP:(i:Int)*(wd:Int)=(P:Int):=by rw [HP.out];simp
   have hPT:P+wd≤8*len2:=by
    have h5:(i+1)*wd≤k*wd:=Nat.mul_le_mul_right _ yay
    have h6:=HTL.out
    rw [Nat.succ_mul] at h5
    rw [HP.out];omega
   go_wp2
   go_loop [14,15] (fun xv jv=>∃ (j x:Nat),j≤wd∧jv=.int .i64 j∧xv=.int .u64 (x:Int)∧Hid (x=dfB (rdB l2) P j)) (fun _ jv=>wd-(Go.RowKit.intOf jv).toNat)
   case atStart=>exact ⟨0,0,Nat.zero_le _,rfl,rfl,h_ rfl⟩
   case round =>
    obtain ⟨j,x,hj,rfl,rfl,HX⟩:=hrel
    by_cases hjw:j<wd
    ·have hjw':(j:Int)<wd:=by omega
     obtain ⟨T1,HT1⟩:=ey (P+j)
     have hTs:(P:Int)+(j:Int)=(T1:Int):=by rw [HT1.out];omega
     have hT1:T1<8*len2:=by rw [HT1.out];omega
     have hT1i:(T1:Int)≤8388720:=by omega
     obtain ⟨q8,HQ8⟩:=ey (T1/8)
     have hq8:(T1:Int)/8=(q8:Int):=by rw [HQ8.out];omega
     have yuA:q8<len2:=by rw [HQ8.out];omega
     have hq8i:(q8:Int)<len2:=by omega
     obtain ⟨b1,o1,v,e1,hb1,hc1,hv,hv2⟩:=(hb2.out wr hbw.out).at (k:=q8) (by rw [hl2.out];exact yuA)
     cases e1
     obtain ⟨r7,HR7⟩:=ey (7-T1%8)
     have ypn:(r7:Int)≤7:=by rw [HR7.out];omega
     have hr7:7-(T1:Int)%8=(r7:Int):=by rw [HR7.out];omega
     obtain ⟨bt,HBT⟩:=ey (v/2^r7%2)
     have hbt:bt<2:=by rw [HBT.out];exact Nat.mod_lt _ (by decide)
     have yuB:(bt:Int)≤1:=by omega
     have ybJ:bits .and .u8 ((v:Int)/2^r7) 1=(bt:Int):=by rw [ynL (by omega),HBT.out]
     have hxl:x<zR:=by rw [HX.out];exact yfw (yfv l2) _ _
     have hxi:(x:Int)≤18446744073709551615:=by unfold zR at hxl;omega
     obtain ⟨x2,HX2⟩:=ey (2*x%zR+bt)
     have hor:bits .or .u64 (IntKind.u64.wrap ((x:Int)*2)) (bt:Int)=(x2:Int):=by rw [yqy hbt,HX2.out]
     have hx2:Hid (x2=dfB (rdB l2) P (j+1)):=h_ (by
      rw [dfB,← HX.out,HX2.out,HBT.out,rdB,← HT1.out,← HQ8.out,hv.out,← HR7.out])
     clear hxl hbt
     go_wp2_with fail
     go_round
     case rel=>exact ⟨j+1,x2,by omega,by go_num,by first|rfl|rw [hor],hx2⟩
     case measure=>simp [Go.RowKit.intOf];omega
    ·obtain rfl:j=wd:=by omega
     obtain ⟨z,HZ⟩:=ey ((m+x)%zR)
     have ya9:IntKind.u64.wrap ((m:Int)+(x:Int))=(z:Int):=by rw [IntKind.wrap_u64,HZ.out];unfold zR;omega
     have hxl:x<zR:=by rw [HX.out];exact yfw (yfv l2) _ _
     have hxi:(x:Int)≤18446744073709551615:=by unfold zR at hxl;omega
     obtain ⟨G,HGG⟩:=ey (unG (rdB l2) j m i)
     rw [← HGG.out] at HG
     have hbl:Hid (G.length+1≤maxLen∧(G.length+1)*8≤140737488355328∧w.heap.size≤wr.heap.size+1):=h_ (by
      have h3:=hbw.out.size
      rw [HGG.out,uB];unfold maxLen
      omega)
     clear hxl
     go_wp2_with (at_builtin;refine wpList_append_own_at _ rfl (.tmp 98) (.tmp 102) 56 rfl w.heap.size 86 ti (.int .u64 0) 1 8 Tryz.underlying56 hi hz0 hz1 hz2 rfl (by decide) _ _ _ rfl ((HG.out.own).alloc _) ⟨_,0,none⟩ 1 1 [.int .u64 (z:Int)] rfl rfl (cell_one_new _ _ _) (by intro u hu;simp at hu;subst hu;rfl) hbl.out.1 hbl.out.2.1 (by simp;exact hbl.out.2.2) ?_)
     intro v5 w5 yM yH _ uS
     have HG5:=h_ (HG.out.next rfl yM yH uS)
     rw [show G++[z]=unG (rdB l2) j m (i+1) by rw [yfV,← HGG.out,unV,← HP.out,← HX.out,← HZ.out]] at HG5
     clear yM yH uS
     go_wp2
     go_roundw
     case rel=>exact ⟨i+1,by omega,by go_num,HG5⟩
     case measure=>simp [Go.RowKit.intOf];omega
  ·obtain rfl:i=k:=by omega
   obtain ⟨qo,co,hvv,hrd,-⟩:=yfE HG.out.own
   subst hvv
   have hlg:(unG (rdB l2) wd m i).length=i:=uB _ _ _ _
   have yaq:Hid (∀ (q:Oa) (d:Nat),Bs wr.drew q rs→yaU (unG (rdB l2) wd m i) rs w (.returned (.tuple #[.slice qo i co,.slice q len3 d,.bool true])) wr.drew):=h_ (fun q d hq=>⟨hbw.out.drew,qo,co,q,d,by rw [hlg,hrl.out],by rw [hlg] at hrd ⊢;exact hrd.below bR.drew,hq⟩)
   rw [hlg]
   clear hrd HG
   have hBwd:Be w wr.drew:=hbw.out.drew
   go_wp2_with fail
   refine wp_region_noPanic ?_
   refine wp_region_held_drew (S:=fun _=>True) (by kernel_rfl) trivial (fun hHeld=>?_)
   refine tk (i:=0) (v:=?v21) rfl (Or.inl ⟨by rfl,?hy21⟩) ?rest21
   case hy21 =>
    intro W' hSw
    obtain _:=hSw
    go_simp
    with_reducible rfl
   simp only [sl]
   refine tk (i:=1) (v:=?v22) rfl (Or.inl ⟨by rfl,?hy22⟩) ?rest22
   case hy22 =>
    intro W' hSw
    obtain _:=hSw
    go_simp
    with_reducible rfl
   simp only [sl]
   refine tk (i:=2) (v:=?v23) rfl (Or.inl ⟨by rfl,?hy23⟩) ?rest23
   case hy23 =>
    intro W' hSw
    obtain _:=hSw
    go_simp
    with_reducible rfl
   simp only [sl]
   refine tk (i:=3) (v:=?v24) rfl (Or.inl ⟨by rfl,?hy24⟩) ?rest24
   case hy24 =>
    intro W' hSw
    obtain _:=hSw
    go_simp
    with_reducible rfl
   simp only [sl]
   refine oN (i:=4) rfl fun K hK=>?_
   go_simp
   refine hK.out _ _ (trivial) (fun hHeld=>?_)
   clear hK K
   refine oN (i:=5) rfl fun K hK=>?_
   go_simp
   refine hK.out _ _ (trivial) (fun hHeld=>?_)
   clear hK K
   refine oN (i:=6) rfl fun K hK=>?_
   go_simp
   refine hK.out _ _ (trivial) (fun hHeld=>?_)
   clear hK K
   refine wpAnyH_done (by kernel_rfl) ?_ _
   refine NoPanic.normal ?_
   clear hHeld
   have hq3:=h_ (hb3.out _ hBwd)
   go_wp2_with fail
   all_goals (go_ret3;first|exact yaq.out _ _ hq3.out|(have h:=hq3.out;rw [if_pos (by assumption)] at h;exact yaq.out _ _ h)|(have h:=hq3.out;rw [if_neg (by assumption)] at h;exact yaq.out _ _ h))
theorem ylW (b0 off len0 c0 n k:Nat) (l:Lb) (w:World) (h1:1≤n) (h2:n≤8) (_h4:4≤len0) (hc:len0≤c0) (_hlm:len0≤1048590) (hl:Hid (l.length=len0)) (hk4:Hid (nb (l.take 4)=k)) (hcap:c0=5+n) (wd:Nat) (hk0:0<k) (hk:k≤1048576) (hh:5+n≤len0) (hwv:Hid ((l.getD (4+n) 0).toNat=wd)) (hw:wd≤64) (hs:len0-(5+n)<(k*wd+7)/8) (hb:Bs w (some ⟨b0,off,none⟩) l) :
  Calls Tryz.prog 170 #[.slice (some ⟨b0,off,none⟩) len0 c0,.int .i64 (n:Int)] w (ycD w):=by
 have hll:=hl.out
 have hn0:1≤(n:Int):=by omega
 have hn8:(n:Int)≤8:=by omega
 have i0':¬ (len0:Int)<4:=by omega
 have i0:4≤(len0:Int):=by omega
 have i0c:4≤(c0:Int):=by omega
 have i0d:(len0:Int)≤(c0:Int):=by omega
 have i0l:(len0:Int)≤1048590:=by omega
 obtain ⟨n4,GG⟩:=ey (4+n)
 obtain ⟨n5,HN5⟩:=ey (5+n)
 have hn4:4+(n:Int)=(n4:Int):=by rw [GG.out];omega
 have hn5:5+(n:Int)=(n5:Int):=by rw [HN5.out];omega
 have yje:(n4:Int)<(n5:Int):=by omega
 have yjf:4≤(n4:Int):=by omega
 have yjg:(n5:Int)≤13:=by omega
 have HN:=h_ (vC (some ⟨b0,off,none⟩) c0 (l.take 4) w (by rw [List.length_take];omega) (by have h:=jK hb 0 4 (by omega) (Nat.add_zero off).symm;rwa [List.drop_zero] at h))
 rw [show (l.take 4).length=4 by rw [List.length_take];omega,hk4.out] at HN
 have hkb:k<4294967296:=by
  have h:=GQ (l.take 4)
  rw [hk4.out,List.length_take,Nat.min_eq_left (by omega)] at h;exact h
 have ycn:(k:Int)≤4294967295:=by omega
 have hkw:IntKind.i64.wrap (k:Int)=(k:Int):=by rw [IntKind.wrap_i64];omega
 have hki:0<(k:Int):=by omega
 have ydr:¬ (k:Int)=0:=by omega
 have hcw:Hid (∀ W,Be w W→W.cell? ⟨b0,off+n4,none⟩=some (.int .u8 (wd:Int))):=h_ (fun W hW=>by
  rcases hb.below hW with h0|⟨b,o,e,h3,h4⟩
  ·omega
  ·injection e with e;injection e with e1 e2;subst e1;subst e2
   have h5:=h4 (4+n) (by omega)
   rw [GG.out]
   rwa [hwv.out] at h5)
 have ysl:=hcw.out w bR
 have hwi:(wd:Int)≤255:=by
  have:=(l.getD (4+n) 0).toNat_lt
  rw [hwv.out] at this;omega
 have hww:IntKind.i64.wrap (wd:Int)=(wd:Int):=by rw [IntKind.wrap_i64];omega
 have hg:¬ 1048576<(k:Int):=by omega
 have hgd:decide (1048576<(k:Int))=false:=decide_eq_false hg
 have hhi:¬ (len0:Int)<(n5:Int):=by omega
 have ysm:(n4:Int)<(len0:Int):=by omega
 have hhd:decide (len0<n5)=false:=decide_eq_false (by omega)
 have hwg:¬ 64<(wd:Int):=by omega
 have hwd:decide (64<(wd:Int))=false:=decide_eq_false hwg
 have yuz:n4-4=n:=by rw [GG.out];omega
 have i4:(n4:Int)≤(c0:Int):=by omega
 have i0e:4<(c0:Int):=by omega
 have hc4':¬ c0=4:=by omega
 have hw4:IntKind.i64.wrap (n4:Int)=(n4:Int):=by rw [IntKind.wrap_i64];omega
 have hmx:max (n4:Int) 0=(n4:Int):=by omega
 obtain ⟨m,HM⟩:=ey (nb ((l.drop 4).take n))
 have hmi:(m:Int)≤18446744073709551615:=by
  have h5:m<18446744073709551616:=by rw [HM.out];exact ybu (by rw [List.length_take];omega)
  omega
 have HNn:Hid (∀ W,Be w W→Calls Tryz.prog 120 #[.slice (some ⟨b0,off+4,none⟩) n (c0-4)] W (Qp (.int .u64 (m:Int)) W)):=h_ (fun W hW=>by
  have h:=vC (some ⟨b0,off+4,none⟩) (c0-4) ((l.drop 4).take n) W (by rw [List.length_take,List.length_drop];omega) (jK (hb.below hW) 4 n (by omega) rfl)
  rwa [show ((l.drop 4).take n).length=n by rw [List.length_take,List.length_drop];omega,← HM.out] at h)
 obtain ⟨TT,GY⟩:=ey (k*wd)
 have GJ:(k:Int)*(wd:Int)=(TT:Int):=by rw [GY.out];simp
 have hTT:(TT:Int)≤67108864:=by
  have h5:k*wd≤1048576*64:=Nat.mul_le_mul hk (by omega)
  rw [GY.out];omega
 obtain ⟨s,HS⟩:=ey ((k*wd+7)/8)
 have hsz:((TT:Int)+7)/8=(s:Int):=by rw [HS.out,GY.out];omega
 obtain ⟨l2,HL2⟩:=ey (l.drop (5+n))
 obtain ⟨len2,HE2⟩:=ey (len0-n5)
 have hl2:Hid (l2.length=len2):=h_ (by rw [HL2.out,List.length_drop,HE2.out,HN5.out];omega)
 have f1:len0-n5=len2:=HE2.out.symm
 have i2l:(len2:Int)≤1048590:=by rw [HE2.out];omega
 have i5:(n5:Int)≤(len0:Int):=by omega
 have hBd:Be w w.drew:=(Below.refl _ w).drew
 have hb2:Hid (∀ (W:World) (q:Oa),Bs W q l2):=h_ (fun W q=>.inl (by rw [hl2.out,HE2.out,HN5.out];omega))
 have z5:len0=n5:=by rw [HN5.out];omega
 have zc:len0=c0:=by omega
 have z2:len2=0:=by rw [HE2.out,HN5.out];omega
 clear f1
 subst z5
 subst zc
 subst z2
 have zs:0<(s:Int):=by rw [HS.out];omega
 clear hb hll hkb hh hcap hs HM i5
 go_in
 go_wp2_with fail
 refine (HN.out).mono ?_
 rintro e w' ⟨rfl,rfl⟩
 go_wp2_with fail
 refine wp_region_noPanic ?_
 refine wp_region_held_drew (S:=fun W'=>W'.cell? ⟨b0,off+n4,none⟩=some (.int .u8 (wd:Int))) (by kernel_rfl) (hcw.out _ hBd) (fun hHeld=>?_)
 refine tk (i:=0) (v:=?v25) rfl (Or.inl ⟨by rfl,?hy25⟩) ?rest25
 case hy25 =>
  intro W' hSw
  obtain e9:=hSw
  go_simp
  with_reducible rfl
 simp only [sl]
 refine tk (i:=1) (v:=?v26) rfl (Or.inl ⟨by rfl,?hy26⟩) ?rest26
 case hy26 =>
  intro W' hSw
  obtain e9:=hSw
  go_simp
  with_reducible rfl
 simp only [sl]
 refine tk (i:=2) (v:=?v27) rfl (Or.inl ⟨by rfl,?hy27⟩) ?rest27
 case hy27 =>
  intro W' hSw
  obtain e9:=hSw
  go_simp
  with_reducible rfl
 simp only [sl]
 refine tk (i:=3) (v:=?v28) rfl (Or.inl ⟨by rfl,?hy28⟩) ?rest28
 case hy28 =>
  intro W' hSw
  obtain e9:=hSw
  go_simp
  with_reducible rfl
 simp only [sl]
 refine tk (i:=5) (v:=?v29) rfl (Or.inl ⟨by rfl,?hy29⟩) ?rest29
 case hy29 =>
  intro W' hSw
  obtain e9:=hSw
  go_simp
  with_reducible rfl
 simp only [sl]
 refine tk (i:=6) (v:=?v30) rfl (Or.inl ⟨by rfl,?hy30⟩) ?rest30
 case hy30 =>
  intro W' hSw
  obtain e9:=hSw
  go_simp
  with_reducible rfl
 simp only [sl]
 refine tk (i:=7) (v:=?v31) rfl (Or.inl ⟨by rfl,?hy31⟩) ?rest31
 case hy31 =>
  intro W' hSw
  obtain e9:=hSw
  go_simp
  with_reducible rfl
 simp only [sl]
 refine tk (i:=8) (v:=?v32) rfl (Or.inl ⟨by rfl,?hy32⟩) ?rest32
 case hy32 =>
  intro W' hSw
  obtain e9:=hSw
  go_simp
  with_reducible rfl
 simp only [sl]
 refine tk (i:=9) (v:=?v33) rfl (Or.inl ⟨by rfl,?hy33⟩) ?rest33
 case hy33 =>
  intro W' hSw
  obtain e9:=hSw
  go_simp
  with_reducible rfl
 simp only [sl]
 refine tk (i:=10) (v:=?v34) rfl (Or.inl ⟨by rfl,?hy34⟩) ?rest34
 case hy34 =>
  intro W' hSw
  obtain e9:=hSw
  go_simp
  with_reducible rfl
 simp only [sl]
 refine oN (i:=4) rfl fun K hK=>?_
 go_simp
 refine (HNn.out _ hBd).mono ?_
 rintro e W' ⟨rfl,rfl⟩
 refine hK.out _ _ (hcw.out _ hBd) (fun hHeld=>?_)
 clear hK K
 refine oN (i:=11) rfl fun K hK=>?_
 go_simp
 refine hK.out _ _ (hcw.out _ hBd) (fun hHeld=>?_)
 clear hK K
 refine oN (i:=12) rfl fun K hK=>?_
 go_simp
 refine hK.out _ _ (hcw.out _ hBd) (fun hHeld=>?_)
 clear hK K
 refine wpAnyH_done (by kernel_rfl) ?_ _
 refine NoPanic.normal ?_
 clear hHeld
 go_wp2
 go_ret3
 exact ⟨bR.drew,rfl⟩
theorem yqN (b0 off len0 c0 n k:Nat) (l:Lb) (w:World) (h1:1≤n) (h2:n≤8) (_h4:4≤len0) (hc:len0≤c0) (_hlm:len0≤1048590) (hl:Hid (l.length=len0)) (hk4:Hid (nb (l.take 4)=k)) (hcap:c0=5+n) (wd:Nat) (hk0:0<k) (hk:k≤1048576) (hh:5+n≤len0) (hwv:Hid ((l.getD (4+n) 0).toNat=wd)) (hw:wd≤64) (hs:(k*wd+7)/8≤len0-(5+n)) (hb:Bs w (some ⟨b0,off,none⟩) l) :
  Calls Tryz.prog 170 #[.slice (some ⟨b0,off,none⟩) len0 c0,.int .i64 (n:Int)] w (yaU (unG (rdB (l.drop (5+n))) wd (nb ((l.drop 4).take n)) k) ((l.drop (5+n)).drop ((k*wd+7)/8)) w):=by
 have hll:=hl.out
 have hn0:1≤(n:Int):=by omega
 have hn8:(n:Int)≤8:=by omega
 have i0':¬ (len0:Int)<4:=by omega
 have i0:4≤(len0:Int):=by omega
 have i0c:4≤(c0:Int):=by omega
 have i0d:(len0:Int)≤(c0:Int):=by omega
 have i0l:(len0:Int)≤1048590:=by omega
 obtain ⟨n4,GG⟩:=ey (4+n)
 obtain ⟨n5,HN5⟩:=ey (5+n)
 have hn4:4+(n:Int)=(n4:Int):=by rw [GG.out];omega
 have hn5:5+(n:Int)=(n5:Int):=by rw [HN5.out];omega
 have yje:(n4:Int)<(n5:Int):=by omega
 have yjf:4≤(n4:Int):=by omega
 have yjg:(n5:Int)≤13:=by omega
 have HN:=h_ (vC (some ⟨b0,off,none⟩) c0 (l.take 4) w (by rw [List.length_take];omega) (by have h:=jK hb 0 4 (by omega) (Nat.add_zero off).symm;rwa [List.drop_zero] at h))
 rw [show (l.take 4).length=4 by rw [List.length_take];omega,hk4.out] at HN
 have hkb:k<4294967296:=by
  have h:=GQ (l.take 4)
  rw [hk4.out,List.length_take,Nat.min_eq_left (by omega)] at h;exact h
 have ycn:(k:Int)≤4294967295:=by omega
 have hkw:IntKind.i64.wrap (k:Int)=(k:Int):=by rw [IntKind.wrap_i64];omega
 have hki:0<(k:Int):=by omega
 have ydr:¬ (k:Int)=0:=by omega
 have hcw:Hid (∀ W,Be w W→W.cell? ⟨b0,off+n4,none⟩=some (.int .u8 (wd:Int))):=h_ (fun W hW=>by
  rcases hb.below hW with h0|⟨b,o,e,h3,h4⟩
  ·omega
  ·injection e with e;injection e with e1 e2;subst e1;subst e2
   have h5:=h4 (4+n) (by omega)
   rw [GG.out]
   rwa [hwv.out] at h5)
 have ysl:=hcw.out w bR
 have hwi:(wd:Int)≤255:=by
  have:=(l.getD (4+n) 0).toNat_lt
  rw [hwv.out] at this;omega
 have hww:IntKind.i64.wrap (wd:Int)=(wd:Int):=by rw [IntKind.wrap_i64];omega
 have hg:¬ 1048576<(k:Int):=by omega
 have hgd:decide (1048576<(k:Int))=false:=decide_eq_false hg
 have hhi:¬ (len0:Int)<(n5:Int):=by omega
 have ysm:(n4:Int)<(len0:Int):=by omega
 have hhd:decide (len0<n5)=false:=decide_eq_false (by omega)
 have hwg:¬ 64<(wd:Int):=by omega
 have hwd:decide (64<(wd:Int))=false:=decide_eq_false hwg
 have yuz:n4-4=n:=by rw [GG.out];omega
 have i4:(n4:Int)≤(c0:Int):=by omega
 have i0e:4<(c0:Int):=by omega
 have hc4':¬ c0=4:=by omega
 have hw4:IntKind.i64.wrap (n4:Int)=(n4:Int):=by rw [IntKind.wrap_i64];omega
 have hmx:max (n4:Int) 0=(n4:Int):=by omega
 obtain ⟨m,HM⟩:=ey (nb ((l.drop 4).take n))
 have hmi:(m:Int)≤18446744073709551615:=by
  have h5:m<18446744073709551616:=by rw [HM.out];exact ybu (by rw [List.length_take];omega)
  omega
 have HNn:Hid (∀ W,Be w W→Calls Tryz.prog 120 #[.slice (some ⟨b0,off+4,none⟩) n (c0-4)] W (Qp (.int .u64 (m:Int)) W)):=h_ (fun W hW=>by
  have h:=vC (some ⟨b0,off+4,none⟩) (c0-4) ((l.drop 4).take n) W (by rw [List.length_take,List.length_drop];omega) (jK (hb.below hW) 4 n (by omega) rfl)
  rwa [show ((l.drop 4).take n).length=n by rw [List.length_take,List.length_drop];omega,← HM.out] at h)
 obtain ⟨TT,GY⟩:=ey (k*wd)
 have GJ:(k:Int)*(wd:Int)=(TT:Int):=by rw [GY.out];simp
 have hTT:(TT:Int)≤67108864:=by
  have h5:k*wd≤1048576*64:=Nat.mul_le_mul hk (by omega)
  rw [GY.out];omega
 obtain ⟨s,HS⟩:=ey ((k*wd+7)/8)
 have hsz:((TT:Int)+7)/8=(s:Int):=by rw [HS.out,GY.out];omega
 obtain ⟨l2,HL2⟩:=ey (l.drop (5+n))
 obtain ⟨len2,HE2⟩:=ey (len0-n5)
 have hl2:Hid (l2.length=len2):=h_ (by rw [HL2.out,List.length_drop,HE2.out,HN5.out];omega)
 have f1:len0-n5=len2:=HE2.out.symm
 have i2l:(len2:Int)≤1048590:=by rw [HE2.out];omega
 have i5:(n5:Int)≤(len0:Int):=by omega
 have hBd:Be w w.drew:=(Below.refl _ w).drew
 have hb2:Hid (∀ (W:World) (q:Oa),Bs W q l2):=h_ (fun W q=>.inl (by rw [hl2.out,HE2.out,HN5.out];omega))
 have z5:len0=n5:=by rw [HN5.out];omega
 have zc:len0=c0:=by omega
 have z2:len2=0:=by rw [HE2.out,HN5.out];omega
 clear f1
 subst z5
 subst zc
 subst z2
 have zs:s=0:=by rw [HS.out];omega
 have zt:TT=0:=by have h7:=HS.out;rw [GY.out];omega
 have HS0:Hid (0=(k*wd+7)/8):=h_ (by rw [← zs];exact HS.out)
 obtain ⟨rs,HRS⟩:=ey (l2.drop s)
 have hrl:Hid (rs.length=0):=h_ (by rw [HRS.out,List.length_drop,hl2.out];omega)
 obtain ⟨ti,hi,hz0,hz1,hz2⟩:=info_parts vP
 have e0:nb ((l.drop 4).take n)=m:=HM.out.symm
 have HTL:Hid (k*wd≤8*0):=h_ (by have:=HS.out;omega)
 rw [e0,← HL2.out,← HS.out,← HRS.out]
 have hb3:Hid (∀ (W:World) (q:Oa),Bs W q rs):=h_ (fun W q=>.inl hrl.out)
 clear hb hll hkb hh hcap hs HM e0 i5 HS GY
 subst zs
 subst zt
 go_in
 go_wp2_with fail
 refine (HN.out).mono ?_
 rintro e w' ⟨rfl,rfl⟩
 go_wp2_with fail
 refine wp_region_noPanic ?_
 refine wp_region_held_drew (S:=fun W'=>W'.cell? ⟨b0,off+n4,none⟩=some (.int .u8 (wd:Int))) (by kernel_rfl) (hcw.out _ hBd) (fun hHeld=>?_)
 refine tk (i:=0) (v:=?v35) rfl (Or.inl ⟨by rfl,?hy35⟩) ?rest35
 case hy35 =>
  intro W' hSw
  obtain e9:=hSw
  go_simp
  with_reducible rfl
 simp only [sl]
 refine tk (i:=1) (v:=?v36) rfl (Or.inl ⟨by rfl,?hy36⟩) ?rest36
 case hy36 =>
  intro W' hSw
  obtain e9:=hSw
  go_simp
  with_reducible rfl
 simp only [sl]
 refine tk (i:=2) (v:=?v37) rfl (Or.inl ⟨by rfl,?hy37⟩) ?rest37
 case hy37 =>
  intro W' hSw
  obtain e9:=hSw
  go_simp
  with_reducible rfl
 simp only [sl]
 refine tk (i:=3) (v:=?v38) rfl (Or.inl ⟨by rfl,?hy38⟩) ?rest38
 case hy38 =>
  intro W' hSw
  obtain e9:=hSw
  go_simp
  with_reducible rfl
 simp only [sl]
 refine tk (i:=5) (v:=?v39) rfl (Or.inl ⟨by rfl,?hy39⟩) ?rest39
 case hy39 =>
  intro W' hSw
  obtain e9:=hSw
  go_simp
  with_reducible rfl
 simp only [sl]
 refine tk (i:=6) (v:=?v40) rfl (Or.inl ⟨by rfl,?hy40⟩) ?rest40
 case hy40 =>
  intro W' hSw
  obtain e9:=hSw
  go_simp
  with_reducible rfl
 simp only [sl]
 refine tk (i:=7) (v:=?v41) rfl (Or.inl ⟨by rfl,?hy41⟩) ?rest41
 case hy41 =>
  intro W' hSw
  obtain e9:=hSw
  go_simp
  with_reducible rfl
 simp only [sl]
 refine tk (i:=8) (v:=?v42) rfl (Or.inl ⟨by rfl,?hy42⟩) ?rest42
 case hy42 =>
  intro W' hSw
  obtain e9:=hSw
  go_simp
  with_reducible rfl
 simp only [sl]
 refine tk (i:=9) (v:=?v43) rfl (Or.inl ⟨by rfl,?hy43⟩) ?rest43
 case hy43 =>
  intro W' hSw
  obtain e9:=hSw
  go_simp
  with_reducible rfl
 simp only [sl]
 refine tk (i:=10) (v:=?v44) rfl (Or.inl ⟨by rfl,?hy44⟩) ?rest44
 case hy44 =>
  intro W' hSw
  obtain e9:=hSw
  go_simp
  with_reducible rfl
 simp only [sl]
 refine oN (i:=4) rfl fun K hK=>?_
 go_simp
 refine (HNn.out _ hBd).mono ?_
 rintro e W' ⟨rfl,rfl⟩
 refine hK.out _ _ (hcw.out _ hBd) (fun hHeld=>?_)
 clear hK K
 refine oN (i:=11) rfl fun K hK=>?_
 go_simp
 refine hK.out _ _ (hcw.out _ hBd) (fun hHeld=>?_)
 clear hK K
 refine oN (i:=12) rfl fun K hK=>?_
 go_simp
 refine hK.out _ _ (hcw.out _ hBd) (fun hHeld=>?_)
 clear hK K
 refine wpAnyH_done (by kernel_rfl) ?_ _
 refine NoPanic.normal ?_
 clear hHeld
 go_wp2_with fail
 have HG0:Hid (GrewU w.heap.size w.drew (.slice none 0 0) (unG (rdB l2) wd m 0) w.drew (.slice none 0 0)):=h_ (GrewU.refl (l:=[]) (World.ownsRow_nil w.drew w.heap.size 86 1))
 (try simp only [hsz])
 go_loopw [12,13] (fun vr iv wr=>∃ (i:Nat),i≤k∧iv=.int .i64 i∧Hid (GrewU w.heap.size w.drew (.slice none 0 0) (unG (rdB l2) wd m i) wr vr)) (fun _ iv _=>k-(Go.RowKit.intOf iv).toNat)
 case atStart=>exact ⟨0,Nat.zero_le _,rfl,HG0⟩
 case round =>
  obtain ⟨i,hik,rfl,HG⟩:=hrel
  have hbw:Hid (Be w wr):=h_ (hBd.trans (HG.out.below nl (by intro k hk;cases hk)))
  by_cases yay:i<k
  ·have hilt':(i:Int)<k:=by omega
   obtain ⟨P,HP⟩:=ey (i*wd)
   have hmulP:(i:Int)*(wd:Int)=(P:Int):=by rw [HP.out];simp
   have hPT:P+wd≤8*0:=by
    have h5:(i+1)*wd≤k*wd:=Nat.mul_le_mul_right _ yay
    have h6:=HTL.out
    rw [Nat.succ_mul] at h5
    rw [HP.out];omega
   go_wp2
   go_loop [14,15] (fun xv jv=>∃ (j x:Nat),j≤wd∧jv=.int .i64 j∧xv=.int .u64 (x:Int)∧Hid (x=dfB (rdB l2) P j)) (fun _ jv=>wd-(Go.RowKit.intOf jv).toNat)
   case atStart=>exact ⟨0,0,Nat.zero_le _,rfl,rfl,h_ rfl⟩
   case round =>
    obtain ⟨j,x,hj,rfl,rfl,HX⟩:=hrel
    by_cases hjw:j<wd
    ·omega
    ·obtain rfl:j=wd:=by omega
     obtain ⟨z,HZ⟩:=ey ((m+x)%zR)
     have ya9:IntKind.u64.wrap ((m:Int)+(x:Int))=(z:Int):=by rw [IntKind.wrap_u64,HZ.out];unfold zR;omega
     have hxl:x<zR:=by rw [HX.out];exact yfw (yfv l2) _ _
     have hxi:(x:Int)≤18446744073709551615:=by unfold zR at hxl;omega
     obtain ⟨G,HGG⟩:=ey (unG (rdB l2) j m i)
     rw [← HGG.out] at HG
     have hbl:Hid (G.length+1≤maxLen∧(G.length+1)*8≤140737488355328∧w.heap.size≤wr.heap.size+1):=h_ (by
      have h3:=hbw.out.size
      rw [HGG.out,uB];unfold maxLen
      omega)
     clear hxl
     go_wp2_with (at_builtin;refine wpList_append_own_at _ rfl (.tmp 98) (.tmp 102) 56 rfl w.heap.size 86 ti (.int .u64 0) 1 8 Tryz.underlying56 hi hz0 hz1 hz2 rfl (by decide) _ _ _ rfl ((HG.out.own).alloc _) ⟨_,0,none⟩ 1 1 [.int .u64 (z:Int)] rfl rfl (cell_one_new _ _ _) (by intro u hu;simp at hu;subst hu;rfl) hbl.out.1 hbl.out.2.1 (by simp;exact hbl.out.2.2) ?_)
     intro v5 w5 yM yH _ uS
     have HG5:=h_ (HG.out.next rfl yM yH uS)
     rw [show G++[z]=unG (rdB l2) j m (i+1) by rw [yfV,← HGG.out,unV,← HP.out,← HX.out,← HZ.out]] at HG5
     clear yM yH uS
     go_wp2
     go_roundw
     case rel=>exact ⟨i+1,by omega,by go_num,HG5⟩
     case measure=>simp [Go.RowKit.intOf];omega
  ·obtain rfl:i=k:=by omega
   obtain ⟨qo,co,hvv,hrd,-⟩:=yfE HG.out.own
   subst hvv
   have hlg:(unG (rdB l2) wd m i).length=i:=uB _ _ _ _
   have yaq:Hid (∀ (q:Oa) (d:Nat),Bs wr.drew q rs→yaU (unG (rdB l2) wd m i) rs w (.returned (.tuple #[.slice qo i co,.slice q 0 d,.bool true])) wr.drew):=h_ (fun q d hq=>⟨hbw.out.drew,qo,co,q,d,by rw [hlg,hrl.out],by rw [hlg] at hrd ⊢;exact hrd.below bR.drew,hq⟩)
   rw [hlg]
   clear hrd HG
   have hBwd:Be w wr.drew:=hbw.out.drew
   go_wp2_with fail
   refine wp_region_noPanic ?_
   refine wp_region_held_drew (S:=fun _=>True) (by kernel_rfl) trivial (fun hHeld=>?_)
   refine tk (i:=0) (v:=?v45) rfl (Or.inl ⟨by rfl,?hy45⟩) ?rest45
   case hy45 =>
    intro W' hSw
    obtain _:=hSw
    go_simp
    with_reducible rfl
   simp only [sl]
   refine tk (i:=1) (v:=?v46) rfl (Or.inl ⟨by rfl,?hy46⟩) ?rest46
   case hy46 =>
    intro W' hSw
    obtain _:=hSw
    go_simp
    with_reducible rfl
   simp only [sl]
   refine tk (i:=2) (v:=?v47) rfl (Or.inl ⟨by rfl,?hy47⟩) ?rest47
   case hy47 =>
    intro W' hSw
    obtain _:=hSw
    go_simp
    with_reducible rfl
   simp only [sl]
   refine tk (i:=3) (v:=?v48) rfl (Or.inl ⟨by rfl,?hy48⟩) ?rest48
   case hy48 =>
    intro W' hSw
    obtain _:=hSw
    go_simp
    with_reducible rfl
   simp only [sl]
   refine oN (i:=4) rfl fun K hK=>?_
   go_simp
   refine hK.out _ _ (trivial) (fun hHeld=>?_)
   clear hK K
   refine oN (i:=5) rfl fun K hK=>?_
   go_simp
   refine hK.out _ _ (trivial) (fun hHeld=>?_)
   clear hK K
   refine oN (i:=6) rfl fun K hK=>?_
   go_simp
   refine hK.out _ _ (trivial) (fun hHeld=>?_)
   clear hK K
   refine wpAnyH_done (by kernel_rfl) ?_ _
   refine NoPanic.normal ?_
   clear hHeld
   go_wp2_with fail
   all_goals (go_ret3;exact yaq.out _ _ (hb3.out _ _))
end Go.Proofs.YtgepehlpjpccaaaGreatDoor
