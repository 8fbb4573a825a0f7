/- Contracts. -/
import Derived.Test.YtgepehlpjpccaaaGreatDoorHXA
set_option maxHeartbeats 4000000
set_option maxRecDepth 100000
namespace Go.Proofs.YtgepehlpjpccaaaGreatDoor
open Go.RowKit
open Go.Lib
theorem yqK (b0 off len0 len1 c0 n k:Nat) (l:Lb) (w:World) (h1:1≤n) (h2:n≤8) (e0:Hid (len0=len1+4)) (hc:len0≤c0) (hlm:len0≤1048590) (hl:Hid (l.length=len0)) (hk0:0<k) (hk4:Hid (nb (l.take 4)=k)) (hkD:1048576/n<k) (hb:Bs w (some ⟨b0,off,none⟩) l) :
  Calls Tryz.prog 164 #[.slice (some ⟨b0,off,none⟩) len0 c0,.int .i64 (n:Int)] w (ydn w):=by
 have q0:=e0.out
 have hll:=hl.out
 have hn0:1≤(n:Int):=by omega
 have hn8:(n:Int)≤8:=by omega
 have i0':¬ (len0:Int)<4:=by omega
 have i0:4≤(len0:Int):=by omega
 have i0c:4≤(c0:Int):=by omega
 have i0d:(len0:Int)≤(c0:Int):=by omega
 have i0l:(len0:Int)≤1048590:=by omega
 have f0:len0-4=len1:=by omega
 have GG:=h_ (jA (some ⟨b0,off,none⟩) c0 (l.take 4) w (by rw [List.length_take];omega) (by have h:=jK hb 0 4 (by omega) (Nat.add_zero off).symm;rwa [List.drop_zero] at h))
 rw [show (l.take 4).length=4 by rw [List.length_take];omega,hk4.out] at GG
 have hkb:k<4294967296:=by
  have h:=GQ (l.take 4)
  rw [hk4.out,List.length_take,Nat.min_eq_left (by omega)] at h;exact h
 have ycn:(k:Int)≤4294967295:=by omega
 have hki:0<(k:Int):=by omega
 have ydr:¬ (k:Int)=0:=by omega
 obtain ⟨D,HD⟩:=ey (1048576/n)
 have hDi:(D:Int)≤1048576:=by
  have:=Nat.div_le_self 1048576 n
  rw [HD.out];omega
 have yfd:(1048576:Int)/(n:Int)=(D:Int):=by rw [HD.out,Int.natCast_ediv];rfl
 have ypj:(D:Int)<(k:Int):=by rw [HD.out];omega
 have ypk:decide (D<k)=true:=decide_eq_true (by omega)
 clear hb hll q0 hkb
 by_cases hc4:c0=4
 ·have z1:len1=0:=by omega
  have hl0:len0=4:=by omega
  subst hc4
  subst hl0
  subst z1
  clear hc hlm f0
  go_in
  go_wp2_with fail
  refine (GG.out).mono ?_
  rintro e w' ⟨rfl,rfl⟩
  go_wp2
  go_ret2
  exact ⟨Below.refl _ _,rfl⟩
 ·have i0e:4<(c0:Int):=by omega
  clear hc hlm
  go_in
  go_wp2_with fail
  refine (GG.out).mono ?_
  rintro e w' ⟨rfl,rfl⟩
  go_wp2
  go_ret2
  exact ⟨Below.refl _ _,rfl⟩
theorem yqL (b0 off len0 len1 c0 n k:Nat) (l:Lb) (w:World) (h1:1≤n) (h2:n≤8) (e0:Hid (len0=len1+4)) (hc:len0≤c0) (hlm:len0≤1048590) (hl:Hid (l.length=len0)) (hk0:0<k) (hk4:Hid (nb (l.take 4)=k)) (hkD:k≤1048576/n) (hh:len1<n+1) (hb:Bs w (some ⟨b0,off,none⟩) l) :
  Calls Tryz.prog 164 #[.slice (some ⟨b0,off,none⟩) len0 c0,.int .i64 (n:Int)] w (ydn w):=by
 have q0:=e0.out
 have hll:=hl.out
 have hn0:1≤(n:Int):=by omega
 have hn8:(n:Int)≤8:=by omega
 have i0':¬ (len0:Int)<4:=by omega
 have i0:4≤(len0:Int):=by omega
 have i0c:4≤(c0:Int):=by omega
 have i0d:(len0:Int)≤(c0:Int):=by omega
 have i0l:(len0:Int)≤1048590:=by omega
 have f0:len0-4=len1:=by omega
 have GG:=h_ (jA (some ⟨b0,off,none⟩) c0 (l.take 4) w (by rw [List.length_take];omega) (by have h:=jK hb 0 4 (by omega) (Nat.add_zero off).symm;rwa [List.drop_zero] at h))
 rw [show (l.take 4).length=4 by rw [List.length_take];omega,hk4.out] at GG
 have hkb:k<4294967296:=by
  have h:=GQ (l.take 4)
  rw [hk4.out,List.length_take,Nat.min_eq_left (by omega)] at h;exact h
 have ycn:(k:Int)≤4294967295:=by omega
 have hki:0<(k:Int):=by omega
 have ydr:¬ (k:Int)=0:=by omega
 obtain ⟨D,HD⟩:=ey (1048576/n)
 have hDi:(D:Int)≤1048576:=by
  have:=Nat.div_le_self 1048576 n
  rw [HD.out];omega
 have yfd:(1048576:Int)/(n:Int)=(D:Int):=by rw [HD.out,Int.natCast_ediv];rfl
 have ypj:¬ (D:Int)<(k:Int):=by rw [HD.out];omega
 have ypk:decide (D<k)=false:=decide_eq_false (by omega)
 have hhi:(len1:Int)<(n:Int)+1:=by omega
 clear hb hll q0 hkb
 by_cases hc4:c0=4
 ·have z1:len1=0:=by omega
  have hl0:len0=4:=by omega
  subst hc4
  subst hl0
  subst z1
  clear hc hlm f0
  go_in
  go_wp2_with fail
  refine (GG.out).mono ?_
  rintro e w' ⟨rfl,rfl⟩
  go_wp2
  go_ret2
  exact ⟨Below.refl _ _,rfl⟩
 ·have i0e:4<(c0:Int):=by omega
  clear hc hlm
  go_in
  go_wp2_with fail
  refine (GG.out).mono ?_
  rintro e w' ⟨rfl,rfl⟩
  go_wp2
  go_ret2
  exact ⟨Below.refl _ _,rfl⟩
theorem ynY (b0 off len0 len1 len2 c0 c1 c2 s n n1 k m wd:Nat) (l:Lb) (w:World) (h1:1≤n) (h2:n≤8) (hN1:Hid (n1=n+1)) (e0:Hid (len0=len1+4)) (e1:Hid (len1=len2+n1)) (d0:Hid (c0=c1+4)) (d1:Hid (c1=c2+n1)) (hc2:0<c2) (hsm:Hid (len2<s)) (hc:len0≤c0) (hlm:len2≤1048576) (hl:Hid (l.length=len0)) (hk0:0<k) (hk:k*n≤1048576) (hwd:wd≤255) (hs:Hid (s=(k*wd+7)/8))
  (hk4:Hid (nb (l.take 4)=k)) (hm:Hid (nb ((l.drop 4).take n)=m)) (hwv:Hid (((l.drop 4).getD n 0).toNat=wd)) (hb:Bs w (some ⟨b0,off,none⟩) l) :
  Calls Tryz.prog 164 #[.slice (some ⟨b0,off,none⟩) len0 c0,.int .i64 (n:Int)] w (ydn w):=by
 have HB:=h_ hb
 have hn:=hN1.out
 have hn0:1≤(n:Int):=by omega
 have hn8:(n:Int)≤8:=by omega
 have hn1:(n:Int)+1=(n1:Int):=by omega
 have hn2:2≤(n1:Int):=by omega
 have hn9:(n1:Int)≤9:=by omega
 have hnn:n<n1:=by omega
 have hni:(n:Int)<(n1:Int):=by omega
 have yuy:n≤n1:=by omega
 have hki:0<(k:Int):=by omega
 have ydr:¬ (k:Int)=0:=by omega
 have hkl:k≤1048576:=by
  have h3:k*1≤k*n:=Nat.mul_le_mul_left _ h1
  omega
 have ycn:(k:Int)≤1048576:=by omega
 obtain ⟨D,HD⟩:=ey (1048576/n)
 have hkD:k≤D:=by rw [HD.out,Nat.le_div_iff_mul_le (by omega)];exact hk
 have ypj:¬ (D:Int)<(k:Int):=by omega
 have ypk:decide (D<k)=false:=decide_eq_false (by omega)
 have hDi:(D:Int)≤1048576:=by
  have:=Nat.div_le_self 1048576 n
  rw [HD.out];omega
 have yfd:(1048576:Int)/(n:Int)=(D:Int):=by rw [HD.out,Int.natCast_ediv];rfl
 have hwi:(wd:Int)≤255:=by omega
 obtain ⟨TT,GY⟩:=ey (k*wd)
 have GJ:(k:Int)*(wd:Int)=(TT:Int):=by rw [GY.out];simp
 have hTT:(TT:Int)≤267386880:=by
  have h5:k*wd≤1048576*255:=Nat.mul_le_mul hkl hwd
  rw [GY.out];omega
 have hsz:((TT:Int)+7)/8=(s:Int):=by rw [hs.out,GY.out];omega
 have q0:=e0.out
 have q1:=e1.out
 have qc0:=d0.out
 have qc1:=d1.out
 have hll:l.length=len0:=hl.out
 have hb1:Hid (∀ W,Be w W→Bs W (some ⟨b0,off+4,none⟩) (l.drop 4)):=h_ (fun W hW=>vH (hb.below hW) 4 (by omega) rfl)
 have GG:=h_ (jA (some ⟨b0,off,none⟩) c0 (l.take 4) w (by rw [List.length_take];omega) (by have h:=jK hb 0 4 (by omega) (Nat.add_zero off).symm;rwa [List.drop_zero] at h))
 rw [show (l.take 4).length=4 by rw [List.length_take];omega,hk4.out] at GG
 have HNn:Hid (∀ W,Be w W→Calls Tryz.prog 197 #[.slice (some ⟨b0,off+4,none⟩) n c1] W (Qp (.int .u64 (m:Int)) W)):=h_ (fun W hW=>by
  have h:=jA (some ⟨b0,off+4,none⟩) c1 ((l.drop 4).take n) W (by rw [List.length_take,List.length_drop];omega) (by have h:=jK (hb1.out W hW) 0 n (by rw [List.length_drop];omega) rfl;rwa [List.drop_zero] at h)
  rwa [show ((l.drop 4).take n).length=n by rw [List.length_take,List.length_drop];omega,hm.out] at h)
 have hcw:Hid (∀ W,Be w W→W.cell? ⟨b0,off+4+n,none⟩=some (.int .u8 (wd:Int))):=h_ (fun W hW=>by
  rcases hb1.out W hW with h0|⟨b,o,e,h3,h4⟩
  ·rw [List.length_drop] at h0;omega
  ·injection e with e;injection e with e1 e2;subst e1;subst e2
   have h5:=h4 n (by rw [List.length_drop];omega)
   rwa [hwv.out] at h5)
 have hmi:(m:Int)≤18446744073709551615:=by
  have h5:m<18446744073709551616:=by rw [← hm.out];exact ybu (by rw [List.length_take];omega)
  omega
 have ypl:m<zR:=by unfold zR;omega
 have Q2:=hsm.out
 have i0:4≤(len0:Int):=by omega
 have i0c:4<(c0:Int):=by omega
 have i0d:(len0:Int)≤(c0:Int):=by omega
 have i0l:(len0:Int)≤1048590:=by omega
 have i1:(n1:Int)≤(len1:Int):=by omega
 have i1n:(n:Int)<(len1:Int):=by omega
 have i1d:(len1:Int)≤(c1:Int):=by omega
 have i1e:(n:Int)≤(c1:Int):=by omega
 have i2':(len2:Int)<(s:Int):=by omega
 have i0':¬ (len0:Int)<4:=by omega
 have i1':¬ (len1:Int)<(n1:Int):=by omega
 have f0:len0-4=len1:=by omega
 have f0c:c0-4=c1:=by omega
 have f1:len1-n1=len2:=by omega
 have f1c:c1-n1=c2:=by omega
 have i1c:(n1:Int)<(c1:Int):=by omega
 have hwk:IntKind.i64.wrap (k:Int)=(k:Int):=by rw [IntKind.wrap_i64];omega
 have hww:IntKind.i64.wrap (wd:Int)=(wd:Int):=by rw [IntKind.wrap_i64];omega
 have hBd:Be w w.drew:=(Below.refl _ w).drew
 clear hn hb hll q0 q1 qc0 qc1 Q2
 go_in
 go_wp2_with fail
 refine (GG.out).mono ?_
 rintro e w' ⟨rfl,rfl⟩
 go_wp2_with fail
 refine wp_region_noPanic ?_
 refine wp_region_held_drew (S:=fun W'=>W'.cell? ⟨b0,off+4+n,none⟩=some (.int .u8 (wd:Int))) (by kernel_rfl) (hcw.out _ hBd) (fun hHeld=>?_)
 refine tk (i:=0) (v:=?v1) rfl (Or.inl ⟨by rfl,?hy1⟩) ?rest1
 case hy1 =>
  intro W' hSw
  obtain e9:=hSw
  go_simp
  with_reducible rfl
 simp only [sl]
 refine tk (i:=1) (v:=?v2) rfl (Or.inl ⟨by rfl,?hy2⟩) ?rest2
 case hy2 =>
  intro W' hSw
  obtain e9:=hSw
  go_simp
  with_reducible rfl
 simp only [sl]
 refine tk (i:=2) (v:=?v3) rfl (Or.inl ⟨by rfl,?hy3⟩) ?rest3
 case hy3 =>
  intro W' hSw
  obtain e9:=hSw
  go_simp
  with_reducible rfl
 simp only [sl]
 refine tk (i:=3) (v:=?v4) rfl (Or.inl ⟨by rfl,?hy4⟩) ?rest4
 case hy4 =>
  intro W' hSw
  obtain e9:=hSw
  go_simp
  with_reducible rfl
 simp only [sl]
 refine tk (i:=4) (v:=?v5) rfl (Or.inl ⟨by rfl,?hy5⟩) ?rest5
 case hy5 =>
  intro W' hSw
  obtain e9:=hSw
  go_simp
  with_reducible rfl
 simp only [sl]
 refine tk (i:=6) (v:=?v6) rfl (Or.inl ⟨by rfl,?hy6⟩) ?rest6
 case hy6 =>
  intro W' hSw
  obtain e9:=hSw
  go_simp
  with_reducible rfl
 simp only [sl]
 refine tk (i:=7) (v:=?v7) rfl (Or.inl ⟨by rfl,?hy7⟩) ?rest7
 case hy7 =>
  intro W' hSw
  obtain e9:=hSw
  go_simp
  with_reducible rfl
 simp only [sl]
 refine tk (i:=8) (v:=?v8) rfl (Or.inl ⟨by rfl,?hy8⟩) ?rest8
 case hy8 =>
  intro W' hSw
  obtain e9:=hSw
  go_simp
  with_reducible rfl
 simp only [sl]
 refine tk (i:=9) (v:=?v9) rfl (Or.inl ⟨by rfl,?hy9⟩) ?rest9
 case hy9 =>
  intro W' hSw
  obtain e9:=hSw
  go_simp
  with_reducible rfl
 simp only [sl]
 refine tk (i:=10) (v:=?v10) rfl (Or.inl ⟨by rfl,?hy10⟩) ?rest10
 case hy10 =>
  intro W' hSw
  obtain e9:=hSw
  go_simp
  with_reducible rfl
 simp only [sl]
 refine oN (i:=5) rfl fun K hK=>?_
 go_simp
 refine (HNn.out _ hBd).mono ?_
 rintro e W' ⟨rfl,rfl⟩
 refine hK.out _ _ (hcw.out _ hBd) (fun hHeld=>?_)
 clear hK K
 refine oN (i:=11) rfl fun K hK=>?_
 go_simp
 refine hK.out _ _ (hcw.out _ hBd) (fun hHeld=>?_)
 clear hK K
 refine oN (i:=12) rfl fun K hK=>?_
 go_simp
 refine hK.out _ _ (hcw.out _ hBd) (fun hHeld=>?_)
 clear hK K
 refine oN (i:=13) rfl fun K hK=>?_
 go_simp
 refine hK.out _ _ (hcw.out _ hBd) (fun hHeld=>?_)
 clear hK K
 refine wpAnyH_done (by kernel_rfl) ?_ _
 refine NoPanic.normal ?_
 clear hHeld
 go_wp2
 go_ret2
 exact ⟨bR.drew,rfl⟩
theorem ynZ (b0 off len0 s n n1 k m wd:Nat) (l:Lb) (w:World) (h1:1≤n) (h2:n≤8) (hN1:Hid (n1=n+1)) (e0:Hid (len0=n1+4)) (hsm:Hid (0<s)) (hl:Hid (l.length=len0)) (hk0:0<k) (hk:k*n≤1048576) (hwd:wd≤255) (hs:Hid (s=(k*wd+7)/8))
  (hk4:Hid (nb (l.take 4)=k)) (hm:Hid (nb ((l.drop 4).take n)=m)) (hwv:Hid (((l.drop 4).getD n 0).toNat=wd)) (hb:Bs w (some ⟨b0,off,none⟩) l) :
  Calls Tryz.prog 164 #[.slice (some ⟨b0,off,none⟩) len0 len0,.int .i64 (n:Int)] w (ydn w):=by
 have HB:=h_ hb
 have hn:=hN1.out
 have hn0:1≤(n:Int):=by omega
 have hn8:(n:Int)≤8:=by omega
 have hn1:(n:Int)+1=(n1:Int):=by omega
 have hn2:2≤(n1:Int):=by omega
 have hn9:(n1:Int)≤9:=by omega
 have hnn:n<n1:=by omega
 have hni:(n:Int)<(n1:Int):=by omega
 have yuy:n≤n1:=by omega
 have hki:0<(k:Int):=by omega
 have ydr:¬ (k:Int)=0:=by omega
 have hkl:k≤1048576:=by
  have h3:k*1≤k*n:=Nat.mul_le_mul_left _ h1
  omega
 have ycn:(k:Int)≤1048576:=by omega
 obtain ⟨D,HD⟩:=ey (1048576/n)
 have hkD:k≤D:=by rw [HD.out,Nat.le_div_iff_mul_le (by omega)];exact hk
 have ypj:¬ (D:Int)<(k:Int):=by omega
 have ypk:decide (D<k)=false:=decide_eq_false (by omega)
 have hDi:(D:Int)≤1048576:=by
  have:=Nat.div_le_self 1048576 n
  rw [HD.out];omega
 have yfd:(1048576:Int)/(n:Int)=(D:Int):=by rw [HD.out,Int.natCast_ediv];rfl
 have hwi:(wd:Int)≤255:=by omega
 obtain ⟨TT,GY⟩:=ey (k*wd)
 have GJ:(k:Int)*(wd:Int)=(TT:Int):=by rw [GY.out];simp
 have hTT:(TT:Int)≤267386880:=by
  have h5:k*wd≤1048576*255:=Nat.mul_le_mul hkl hwd
  rw [GY.out];omega
 have hsz:((TT:Int)+7)/8=(s:Int):=by rw [hs.out,GY.out];omega
 have q0:=e0.out
 have hll:l.length=len0:=hl.out
 have hb1:Hid (∀ W,Be w W→Bs W (some ⟨b0,off+4,none⟩) (l.drop 4)):=h_ (fun W hW=>vH (hb.below hW) 4 (by omega) rfl)
 have GG:=h_ (jA (some ⟨b0,off,none⟩) len0 (l.take 4) w (by rw [List.length_take];omega) (by have h:=jK hb 0 4 (by omega) (Nat.add_zero off).symm;rwa [List.drop_zero] at h))
 rw [show (l.take 4).length=4 by rw [List.length_take];omega,hk4.out] at GG
 have HNn:Hid (∀ W,Be w W→Calls Tryz.prog 197 #[.slice (some ⟨b0,off+4,none⟩) n n1] W (Qp (.int .u64 (m:Int)) W)):=h_ (fun W hW=>by
  have h:=jA (some ⟨b0,off+4,none⟩) n1 ((l.drop 4).take n) W (by rw [List.length_take,List.length_drop];omega) (by have h:=jK (hb1.out W hW) 0 n (by rw [List.length_drop];omega) rfl;rwa [List.drop_zero] at h)
  rwa [show ((l.drop 4).take n).length=n by rw [List.length_take,List.length_drop];omega,hm.out] at h)
 have hcw:Hid (∀ W,Be w W→W.cell? ⟨b0,off+4+n,none⟩=some (.int .u8 (wd:Int))):=h_ (fun W hW=>by
  rcases hb1.out W hW with h0|⟨b,o,e,h3,h4⟩
  ·rw [List.length_drop] at h0;omega
  ·injection e with e;injection e with e1 e2;subst e1;subst e2
   have h5:=h4 n (by rw [List.length_drop];omega)
   rwa [hwv.out] at h5)
 have hmi:(m:Int)≤18446744073709551615:=by
  have h5:m<18446744073709551616:=by rw [← hm.out];exact ybu (by rw [List.length_take];omega)
  omega
 have ypl:m<zR:=by unfold zR;omega
 have Q2:=hsm.out
 have i0:4≤(len0:Int):=by omega
 have i0c:4<(len0:Int):=by omega
 have i0l:(len0:Int)≤13:=by omega
 have i0':¬ (len0:Int)<4:=by omega
 have i2':0<(s:Int):=by omega
 have f0:len0-4=n1:=by omega
 have hwk:IntKind.i64.wrap (k:Int)=(k:Int):=by rw [IntKind.wrap_i64];omega
 have hww:IntKind.i64.wrap (wd:Int)=(wd:Int):=by rw [IntKind.wrap_i64];omega
 have hBd:Be w w.drew:=(Below.refl _ w).drew
 clear hn hb hll q0 Q2
 go_in
 go_wp2_with fail
 refine (GG.out).mono ?_
 rintro e w' ⟨rfl,rfl⟩
 go_wp2_with fail
 refine wp_region_noPanic ?_
 refine wp_region_held_drew (S:=fun W'=>W'.cell? ⟨b0,off+4+n,none⟩=some (.int .u8 (wd:Int))) (by kernel_rfl) (hcw.out _ hBd) (fun hHeld=>?_)
 refine tk (i:=0) (v:=?v11) rfl (Or.inl ⟨by rfl,?hy11⟩) ?rest11
 case hy11 =>
  intro W' hSw
  obtain e9:=hSw
  go_simp
  with_reducible rfl
 simp only [sl]
 refine tk (i:=1) (v:=?v12) rfl (Or.inl ⟨by rfl,?hy12⟩) ?rest12
 case hy12 =>
  intro W' hSw
  obtain e9:=hSw
  go_simp
  with_reducible rfl
 simp only [sl]
 refine tk (i:=2) (v:=?v13) rfl (Or.inl ⟨by rfl,?hy13⟩) ?rest13
 case hy13 =>
  intro W' hSw
  obtain e9:=hSw
  go_simp
  with_reducible rfl
 simp only [sl]
 refine tk (i:=3) (v:=?v14) rfl (Or.inl ⟨by rfl,?hy14⟩) ?rest14
 case hy14 =>
  intro W' hSw
  obtain e9:=hSw
  go_simp
  with_reducible rfl
 simp only [sl]
 refine tk (i:=4) (v:=?v15) rfl (Or.inl ⟨by rfl,?hy15⟩) ?rest15
 case hy15 =>
  intro W' hSw
  obtain e9:=hSw
  go_simp
  with_reducible rfl
 simp only [sl]
 refine tk (i:=6) (v:=?v16) rfl (Or.inl ⟨by rfl,?hy16⟩) ?rest16
 case hy16 =>
  intro W' hSw
  obtain e9:=hSw
  go_simp
  with_reducible rfl
 simp only [sl]
 refine tk (i:=7) (v:=?v17) rfl (Or.inl ⟨by rfl,?hy17⟩) ?rest17
 case hy17 =>
  intro W' hSw
  obtain e9:=hSw
  go_simp
  with_reducible rfl
 simp only [sl]
 refine tk (i:=8) (v:=?v18) rfl (Or.inl ⟨by rfl,?hy18⟩) ?rest18
 case hy18 =>
  intro W' hSw
  obtain e9:=hSw
  go_simp
  with_reducible rfl
 simp only [sl]
 refine tk (i:=9) (v:=?v19) rfl (Or.inl ⟨by rfl,?hy19⟩) ?rest19
 case hy19 =>
  intro W' hSw
  obtain e9:=hSw
  go_simp
  with_reducible rfl
 simp only [sl]
 refine tk (i:=10) (v:=?v20) rfl (Or.inl ⟨by rfl,?hy20⟩) ?rest20
 case hy20 =>
  intro W' hSw
  obtain e9:=hSw
  go_simp
  with_reducible rfl
 simp only [sl]
 refine oN (i:=5) rfl fun K hK=>?_
 go_simp
 refine (HNn.out _ hBd).mono ?_
 rintro e W' ⟨rfl,rfl⟩
 refine hK.out _ _ (hcw.out _ hBd) (fun hHeld=>?_)
 clear hK K
 refine oN (i:=11) rfl fun K hK=>?_
 go_simp
 refine hK.out _ _ (hcw.out _ hBd) (fun hHeld=>?_)
 clear hK K
 refine oN (i:=12) rfl fun K hK=>?_
 go_simp
 refine hK.out _ _ (hcw.out _ hBd) (fun hHeld=>?_)
 clear hK K
 refine oN (i:=13) rfl fun K hK=>?_
 go_simp
 refine hK.out _ _ (hcw.out _ hBd) (fun hHeld=>?_)
 clear hK K
 refine wpAnyH_done (by kernel_rfl) ?_ _
 refine NoPanic.normal ?_
 clear hHeld
 go_wp2
 go_ret2
 exact ⟨bR.drew,rfl⟩
theorem ys7 (p:Oa) (c n len0:Nat) (P:Lb) (w:World) (h1:1≤n) (h2:n≤8) (hp0:Hid (P.length=len0)) (hpl:len0≤1048576) (hc:len0≤c) (hb:Bs w p P) :
  ∃ o:Option Lb,(∀ L,o=some L→L.length≤2097152)∧Calls Tryz.prog 164 #[.slice p len0 c,.int .i64 (n:Int)] w (fun e w'=>match o with|none=>ydn w e w' | some L=>yag L w e w'):=by
 have hpo:=hp0.out
 by_cases h4:len0<4
 ·exact ⟨none,fun L e=>(by cases e),yob p len0 c n w h4⟩
 obtain ⟨b0,off,rfl⟩:=yfa hb (by omega)
 obtain ⟨k,HK⟩:∃ k,k=nb (P.take 4):=⟨_,rfl⟩
 by_cases hk0:k=0
 ·refine ⟨some (P.drop 4),fun L e=>by cases e;rw [List.length_drop];omega,?_⟩
  exact ykc b0 off len0 (len0-4) c n P w (h_ (by omega)) hc (by omega) hp0 (h_ (by rw [← HK];exact hk0)) hb
 have hk0:=Nat.pos_of_ne_zero hk0
 by_cases hkD:1048576/n<k
 ·exact ⟨none,fun L e=>(by cases e),yqK b0 off len0 (len0-4) c n k P w h1 h2 (h_ (by omega)) hc (by omega) hp0 hk0 (h_ HK.symm) hkD hb⟩
 have hkn:k*n≤1048576:=by
  have h:=Nat.mul_le_mul_right n (Nat.not_lt.1 hkD)
  exact Nat.le_trans h (Nat.div_mul_le_self _ _)
 by_cases hh:len0-4<n+1
 ·exact ⟨none,fun L e=>(by cases e),yqL b0 off len0 (len0-4) c n k P w h1 h2 (h_ (by omega)) hc (by omega) hp0 hk0 (h_ HK.symm) (Nat.not_lt.1 hkD) hh hb⟩
 obtain ⟨wd,HW⟩:∃ wd,wd=((P.drop 4).getD n 0).toNat:=⟨_,rfl⟩
 have hwd:wd≤255:=by have:=((P.drop 4).getD n 0).toNat_lt;omega
 obtain ⟨s,HS⟩:∃ s,s=(k*wd+7)/8:=⟨_,rfl⟩
 have hjl:∀ b,(jl n (unG b wd (nb ((P.drop 4).take n)) k)).length≤1048576:=fun b=>by rw [uE,uB];exact hkn
 by_cases hc2:c-4-(n+1)=0
 ·have hcl:c=len0:=by omega
  subst hcl
  by_cases hs0:s=0
  ·have ypm:wd=0:=by
    rcases Nat.eq_zero_or_pos wd with h|h
    ·exact h
    ·have:1*1≤k*wd:=Nat.mul_le_mul hk0 h
     omega
   refine ⟨some (jl n (unG (rdB []) 0 (nb ((P.drop 4).take n)) k)++[]),fun L e=>by cases e;rw [List.append_nil,← ypm];exact Nat.le_trans (hjl _) (by decide),?_⟩
   exact ynN b0 off c n (n+1) k _ P w h1 h2 (h_ rfl) (h_ (by omega)) hp0 hk0 hkn (h_ HK.symm) (h_ rfl) (h_ (by rw [← HW];exact ypm)) hb
  ·exact ⟨none,fun L e=>(by cases e),ynZ b0 off c s n (n+1) k _ wd P w h1 h2 (h_ rfl) (h_ (by omega)) (h_ (by omega)) hp0 hk0 hkn hwd (h_ HS) (h_ HK.symm) (h_ rfl) (h_ HW.symm) hb⟩
 by_cases hsm:len0-4-(n+1)<s
 ·exact ⟨none,fun L e=>(by cases e),ynY b0 off len0 (len0-4) (len0-4-(n+1)) c (c-4) (c-4-(n+1)) s n (n+1) k _ wd P w h1 h2 (h_ rfl) (h_ (by omega)) (h_ (by omega)) (h_ (by omega)) (h_ (by omega)) (Nat.pos_of_ne_zero hc2) (h_ hsm) hc (by omega) hp0 hk0 hkn hwd (h_ HS) (h_ HK.symm) (h_ rfl) (h_ HW.symm) hb⟩
 ·refine ⟨some _,fun L e=>?_,ynM b0 off len0 (len0-4) (len0-4-(n+1)) (len0-4-(n+1)-s) c (c-4) (c-4-(n+1)) s n (n+1) k _ wd P w h1 h2 (h_ rfl) (h_ (by omega)) (h_ (by omega)) (h_ (by omega)) (h_ (by omega)) (h_ (by omega)) (Nat.pos_of_ne_zero hc2) (h_ (by omega)) hc (by omega) hp0 hk0 hkn hwd (h_ HS) (h_ HK.symm) (h_ rfl) (h_ HW.symm) hb⟩
  cases e
  have:=hjl (rdB ((P.drop 4).drop (n+1)))
  rw [List.length_append,List.length_drop,List.length_drop,List.length_drop];omega
def yk5 (P:Lb) (n:Nat):Prop:=∀ L:Lb,L.length≤1048576→vJ L n≠P
def yb5 (w:World) (e:Ending) (w':World):Prop:=Be w w'∧e=.returned (.tuple #[.slice none 0 0,.int .i64 5])
theorem ykn (p:Oa) (k c n:Nat) (w:World) (h1:1≤n) (h2:n≤8) (hk:1048576<k) (hk2:k≤2097152):Calls Tryz.prog 147 #[.slice p k c,.int .i64 (n:Int)] w fun e w'=>(∃ x:Int,x≠0∧e=.returned (.int .i64 x))∧w=w':=by
 have H:=h_ (yie n w h1 h2)
 have hk':1048576<(k:Int):=by omega
 have hk2':(k:Int)≤2097152:=by omega
 clear h1 h2 hk hk2
 go_in
 go_wp2_with fail
 refine (H.out).mono ?_
 rintro e w' ⟨rfl,rfl⟩
 go_wp2
 go_ret
 exact ⟨⟨_,by decide,rfl⟩,rfl⟩
theorem ylS (p:Oa) (k c n:Nat) (w:World) (h1:1≤n) (h2:n≤8) (hk:1048576<k) (hk2:k≤2097152):Calls Tryz.prog 100 #[.slice p k c,.int .i64 (n:Int)] w fun e w'=>Be w w'∧∃ x:Int,x≠0∧e=.returned (.tuple #[.slice none 0 0,.int .i64 x]):=by
 have H:=h_ (ykn p k c n w h1 h2 hk hk2)
 have hk2':(k:Int)≤2097152:=by omega
 clear h1 h2 hk hk2
 go_in
 go_wp2_with fail
 refine (H.out).mono ?_
 rintro e w' ⟨⟨x,hx,rfl⟩,rfl⟩
 have hx':(x==0)=false:=by simpa using hx
 go_wp2
 go_ret2
 exact ⟨Below.refl _ _,x,hx,rfl⟩
theorem yjs {A B:Lb} (h:A≠B):((⟨A.toArray⟩:ByteArray).toList==(⟨B.toArray⟩:ByteArray).toList)=false:=by
 rw [beq_eq_false_iff_ne]
 simpa using h
theorem ylT (p q:Oa) (c d:Nat) (A B:Lb) (w:World) (hAB:A≠B) (hp:Bs w p A) (hq:Bs w q B) :
  Calls Tryz.prog 60 #[.slice p A.length c,.slice q B.length d] w fun r w'=>r=.returned (.bool false)∧w=w':=by
 have h1:=zP w p c A hp
 have h2:=zP w q d B hq
 clear hp hq
 have h3:=yjs hAB
 obtain ⟨s,hs⟩:∃ s:ByteArray,s=⟨A.toArray⟩:=⟨_,rfl⟩
 obtain ⟨u,hu⟩:∃ u:ByteArray,u=⟨B.toArray⟩:=⟨_,rfl⟩
 rw [← hs] at h1 h3
 rw [← hu] at h2 h3
 clear hs hu hAB
 go_in
 go_wp2
 go_ret
 refine ⟨?_,rfl⟩
 rfl
theorem yko (p:Oa) (c n len0:Nat) (w:World) (h1:1≤n) (h2:n≤8) (hpl:len0≤1048576) (hu:Calls Tryz.prog 164 #[.slice p len0 c,.int .i64 (n:Int)] w (ydn w)) :
  Calls Tryz.prog 111 #[.slice p len0 c,.int .i64 (n:Int)] w (yb5 w):=by
 have HA:=h_ (yaI p len0 c n w h1 h2 hpl)
 have HU:=h_ hu
 clear hu
 go_in
 go_wp2_with fail
 refine (HA.out).mono ?_
 rintro e w' ⟨rfl,rfl⟩
 go_wp2_with fail
 refine (HU.out).mono ?_
 rintro e w1 ⟨hb1,rfl⟩
 have yY:=h_ hb1
 clear hb1
 go_wp2
 go_ret2
 exact ⟨yY.out,rfl⟩
theorem ykp (p:Oa) (c n len0:Nat) (L:Lb) (w:World) (h1:1≤n) (h2:n≤8) (hpl:len0≤1048576) (hL1:1048576<L.length) (hL2:L.length≤2097152) (hu:Calls Tryz.prog 164 #[.slice p len0 c,.int .i64 (n:Int)] w (yag L w)) :
  Calls Tryz.prog 111 #[.slice p len0 c,.int .i64 (n:Int)] w (yb5 w):=by
 have HA:=h_ (yaI p len0 c n w h1 h2 hpl)
 have HU:=h_ hu
 obtain ⟨ll,GL⟩:=ey (L.length)
 rw [← GL.out] at hL1 hL2
 have hi:(ll:Int)≤2097152:=by omega
 clear hu
 go_in
 go_wp2_with fail
 refine (HA.out).mono ?_
 rintro e w' ⟨rfl,rfl⟩
 go_wp2_with fail
 refine (HU.out).mono ?_
 rintro e w1 ⟨hb1,q,d,rfl,-,-,-⟩
 rw [← GL.out]
 have yY:=h_ hb1
 have HP:=h_ (ylS q ll d n w1 h1 h2 hL1 hL2)
 clear hb1
 go_wp2_with fail
 refine (HP.out).mono ?_
 rintro e w2 ⟨hb2,x,hx,rfl⟩
 have vK:=th yY hb2
 have hx':(x==0)=false:=by simpa using hx
 clear hb2
 go_wp2
 go_ret2
 exact ⟨vK.out,rfl⟩
theorem yij (p:Oa) (c n len0:Nat) (L P:Lb) (w:World) (h1:1≤n) (h2:n≤8) (hp0:Hid (P.length=len0)) (hpl:len0≤1048576) (hL1:L.length≤1048576) (hne:vJ L n≠P) (hb:Bs w p P) (hu:Calls Tryz.prog 164 #[.slice p len0 c,.int .i64 (n:Int)] w (yag L w)) :
  Calls Tryz.prog 111 #[.slice p len0 c,.int .i64 (n:Int)] w (yb5 w):=by
 have HA:=h_ (yaI p len0 c n w h1 h2 hpl)
 have HU:=h_ hu
 have HB:=h_ hb
 have HNE:=h_ hne
 obtain ⟨ll,GL⟩:=ey (L.length)
 rw [← GL.out] at hL1
 have hi:(ll:Int)≤1048576:=by omega
 clear hu hb hne
 go_in
 go_wp2_with fail
 refine (HA.out).mono ?_
 rintro e w' ⟨rfl,rfl⟩
 go_wp2_with fail
 refine (HU.out).mono ?_
 rintro e w1 ⟨hb1,q,d,rfl,hd,hq,hs⟩
 rw [← GL.out] at hd ⊢
 have yY:=h_ hb1
 have HPk:=h_ (ykb q d n ll L w1 GL h1 h2 hL1 hd hq hs)
 clear hb1 hs
 go_wp2_with fail
 refine (HPk.out).mono ?_
 rintro e w2 ⟨hb2,v,rfl,ho⟩
 obtain ⟨q2,d2,rfl,hs2,-⟩:=zA ho
 have vK:=th yY hb2
 have HE:=h_ (ylT q2 p d2 c (vJ L n) P w2 HNE.out hs2 (HB.out.below vK.out))
 obtain ⟨m2,HM2⟩:=ey ((vJ L n).length)
 rw [← HM2.out,hp0.out] at HE
 rw [← HM2.out]
 clear ho hs2 hb2
 go_wp2_with fail
 refine (HE.out).mono ?_
 rintro e w3 ⟨rfl,rfl⟩
 go_wp2
 go_ret2
 exact ⟨vK.out,rfl⟩
theorem ygQ (p:Oa) (c n len0:Nat) (P:Lb) (w:World) (h1:1≤n) (h2:n≤8) (hp0:Hid (P.length=len0)) (hpl:len0≤1048576) (hc:len0≤c) (hno:yk5 P n) (hb:Bs w p P) :
  Calls Tryz.prog 111 #[.slice p len0 c,.int .i64 (n:Int)] w (yb5 w):=by
 obtain ⟨o,ho,hu⟩:=ys7 p c n len0 P w h1 h2 hp0 hpl hc hb
 cases o with
 | none=>exact yko p c n len0 w h1 h2 hpl hu
 | some L =>
  by_cases hL:L.length≤1048576
  ·exact yij p c n len0 L P w h1 h2 hp0 hpl hL (hno L hL) hb hu
  ·exact ykp p c n len0 L w h1 h2 hpl (by omega) (ho L rfl) hu
def ycD (w:World) (e:Ending) (w':World):Prop:=Be w w'∧e=.returned (.tuple #[.slice none 0 0,.slice none 0 0,.bool false])
def yaU (gs:List Nat) (rs:Lb) (w:World) (e:Ending) (w':World):Prop:=Be w w'∧∃ p c q d,e=.returned (.tuple #[.slice p gs.length c,.slice q rs.length d,.bool true])∧Rd w' p gs.length gs∧Bs w' q rs
theorem ylU (p:Oa) (len c:Nat) (z:Int) (w:World) (h:len<4):Calls Tryz.prog 170 #[.slice p len c,.int .i64 z] w (ycD w):=by
 have hi:(len:Int)<4:=by omega
 clear h
 go_in
 go_wp2
 go_ret3
 exact ⟨Below.refl _ _,rfl⟩
theorem yn0 (b0 off len0 c0 n k:Nat) (l:Lb) (w:World) (h1:1≤n) (h2:n≤8) (h4:4≤len0) (hc:len0≤c0) (hlm:len0≤1048590) (hl:Hid (l.length=len0)) (hk4:Hid (nb (l.take 4)=k)) (hk:1048576<k) (hb:Bs w (some ⟨b0,off,none⟩) l) :
  Calls Tryz.prog 170 #[.slice (some ⟨b0,off,none⟩) len0 c0,.int .i64 (n:Int)] w (ycD w):=by
 have hll:=hl.out
 have hn0:1≤(n:Int):=by omega
 have hn8:(n:Int)≤8:=by omega
 have i0':¬ (len0:Int)<4:=by omega
 have i0:4≤(len0:Int):=by omega
 have i0c:4≤(c0:Int):=by omega
 have i0d:(len0:Int)≤(c0:Int):=by omega
 have i0l:(len0:Int)≤1048590:=by omega
 obtain ⟨n4,GG⟩:=ey (4+n)
 obtain ⟨n5,HN5⟩:=ey (5+n)
 have hn4:4+(n:Int)=(n4:Int):=by rw [GG.out];omega
 have hn5:5+(n:Int)=(n5:Int):=by rw [HN5.out];omega
 have yje:(n4:Int)<(n5:Int):=by omega
 have yjf:4≤(n4:Int):=by omega
 have yjg:(n5:Int)≤13:=by omega
 have HN:=h_ (vC (some ⟨b0,off,none⟩) c0 (l.take 4) w (by rw [List.length_take];omega) (by have h:=jK hb 0 4 (by omega) (Nat.add_zero off).symm;rwa [List.drop_zero] at h))
 rw [show (l.take 4).length=4 by rw [List.length_take];omega,hk4.out] at HN
 have hkb:k<4294967296:=by
  have h:=GQ (l.take 4)
  rw [hk4.out,List.length_take,Nat.min_eq_left (by omega)] at h;exact h
 have ycn:(k:Int)≤4294967295:=by omega
 have hkw:IntKind.i64.wrap (k:Int)=(k:Int):=by rw [IntKind.wrap_i64];omega
 have hki:0<(k:Int):=by omega
 have ydr:¬ (k:Int)=0:=by omega
 have hg:1048576<(k:Int):=by omega
 have hgd:decide (1048576<(k:Int))=true:=decide_eq_true hg
 clear hb hll hkb
 go_in
 go_wp2_with fail
 refine (HN.out).mono ?_
 rintro e w' ⟨rfl,rfl⟩
 go_wp2
 go_ret3
 exact ⟨Below.refl _ _,rfl⟩
theorem yn1 (b0 off len0 c0 n k:Nat) (l:Lb) (w:World) (h1:1≤n) (h2:n≤8) (h4:4≤len0) (hc:len0≤c0) (hlm:len0≤1048590) (hl:Hid (l.length=len0)) (hk4:Hid (nb (l.take 4)=k)) (hk0:0<k) (hk:k≤1048576) (hh:len0<5+n) (hb:Bs w (some ⟨b0,off,none⟩) l) :
  Calls Tryz.prog 170 #[.slice (some ⟨b0,off,none⟩) len0 c0,.int .i64 (n:Int)] w (ycD w):=by
 have hll:=hl.out
 have hn0:1≤(n:Int):=by omega
 have hn8:(n:Int)≤8:=by omega
 have i0':¬ (len0:Int)<4:=by omega
 have i0:4≤(len0:Int):=by omega
 have i0c:4≤(c0:Int):=by omega
 have i0d:(len0:Int)≤(c0:Int):=by omega
 have i0l:(len0:Int)≤1048590:=by omega
 obtain ⟨n4,GG⟩:=ey (4+n)
 obtain ⟨n5,HN5⟩:=ey (5+n)
 have hn4:4+(n:Int)=(n4:Int):=by rw [GG.out];omega
 have hn5:5+(n:Int)=(n5:Int):=by rw [HN5.out];omega
 have yje:(n4:Int)<(n5:Int):=by omega
 have yjf:4≤(n4:Int):=by omega
 have yjg:(n5:Int)≤13:=by omega
 have HN:=h_ (vC (some ⟨b0,off,none⟩) c0 (l.take 4) w (by rw [List.length_take];omega) (by have h:=jK hb 0 4 (by omega) (Nat.add_zero off).symm;rwa [List.drop_zero] at h))
 rw [show (l.take 4).length=4 by rw [List.length_take];omega,hk4.out] at HN
 have hkb:k<4294967296:=by
  have h:=GQ (l.take 4)
  rw [hk4.out,List.length_take,Nat.min_eq_left (by omega)] at h;exact h
 have ycn:(k:Int)≤4294967295:=by omega
 have hkw:IntKind.i64.wrap (k:Int)=(k:Int):=by rw [IntKind.wrap_i64];omega
 have hki:0<(k:Int):=by omega
 have ydr:¬ (k:Int)=0:=by omega
 have hg:¬ 1048576<(k:Int):=by omega
 have hgd:decide (1048576<(k:Int))=false:=decide_eq_false hg
 have hhi:(len0:Int)<(n5:Int):=by omega
 have hhd:decide (len0<n5)=true:=decide_eq_true (by omega)
 clear hb hll hkb hh
 go_in
 go_wp2_with fail
 refine (HN.out).mono ?_
 rintro e w' ⟨rfl,rfl⟩
 go_wp2
 go_ret3
 exact ⟨Below.refl _ _,rfl⟩
theorem yn2 (b0 off len0 c0 n k:Nat) (l:Lb) (w:World) (h1:1≤n) (h2:n≤8) (h4:4≤len0) (hc:len0≤c0) (hlm:len0≤1048590) (hl:Hid (l.length=len0)) (hk4:Hid (nb (l.take 4)=k)) (wd:Nat) (hk0:0<k) (hk:k≤1048576) (hh:5+n≤len0) (hwv:Hid ((l.getD (4+n) 0).toNat=wd)) (hw:64<wd) (hb:Bs w (some ⟨b0,off,none⟩) l) :
  Calls Tryz.prog 170 #[.slice (some ⟨b0,off,none⟩) len0 c0,.int .i64 (n:Int)] w (ycD w):=by
 have hll:=hl.out
 have hn0:1≤(n:Int):=by omega
 have hn8:(n:Int)≤8:=by omega
 have i0':¬ (len0:Int)<4:=by omega
 have i0:4≤(len0:Int):=by omega
 have i0c:4≤(c0:Int):=by omega
 have i0d:(len0:Int)≤(c0:Int):=by omega
 have i0l:(len0:Int)≤1048590:=by omega
 obtain ⟨n4,GG⟩:=ey (4+n)
 obtain ⟨n5,HN5⟩:=ey (5+n)
 have hn4:4+(n:Int)=(n4:Int):=by rw [GG.out];omega
 have hn5:5+(n:Int)=(n5:Int):=by rw [HN5.out];omega
 have yje:(n4:Int)<(n5:Int):=by omega
 have yjf:4≤(n4:Int):=by omega
 have yjg:(n5:Int)≤13:=by omega
 have HN:=h_ (vC (some ⟨b0,off,none⟩) c0 (l.take 4) w (by rw [List.length_take];omega) (by have h:=jK hb 0 4 (by omega) (Nat.add_zero off).symm;rwa [List.drop_zero] at h))
 rw [show (l.take 4).length=4 by rw [List.length_take];omega,hk4.out] at HN
 have hkb:k<4294967296:=by
  have h:=GQ (l.take 4)
  rw [hk4.out,List.length_take,Nat.min_eq_left (by omega)] at h;exact h
 have ycn:(k:Int)≤4294967295:=by omega
 have hkw:IntKind.i64.wrap (k:Int)=(k:Int):=by rw [IntKind.wrap_i64];omega
 have hki:0<(k:Int):=by omega
 have ydr:¬ (k:Int)=0:=by omega
 have hcw:Hid (∀ W,Be w W→W.cell? ⟨b0,off+n4,none⟩=some (.int .u8 (wd:Int))):=h_ (fun W hW=>by
  rcases hb.below hW with h0|⟨b,o,e,h3,h4⟩
  ·omega
  ·injection e with e;injection e with e1 e2;subst e1;subst e2
   have h5:=h4 (4+n) (by omega)
   rw [GG.out]
   rwa [hwv.out] at h5)
 have ysl:=hcw.out w bR
 have hwi:(wd:Int)≤255:=by
  have:=(l.getD (4+n) 0).toNat_lt
  rw [hwv.out] at this;omega
 have hww:IntKind.i64.wrap (wd:Int)=(wd:Int):=by rw [IntKind.wrap_i64];omega
 have hg:¬ 1048576<(k:Int):=by omega
 have hgd:decide (1048576<(k:Int))=false:=decide_eq_false hg
 have hhi:¬ (len0:Int)<(n5:Int):=by omega
 have ysm:(n4:Int)<(len0:Int):=by omega
 have hhd:decide (len0<n5)=false:=decide_eq_false (by omega)
 have hwg:64<(wd:Int):=by omega
 have hwd:decide (64<(wd:Int))=true:=decide_eq_true hwg
 clear hb hll hkb hh
 go_in
 go_wp2_with fail
 refine (HN.out).mono ?_
 rintro e w' ⟨rfl,rfl⟩
 go_wp2
 go_ret3
 exact ⟨Below.refl _ _,rfl⟩
theorem yn3 (b0 off len0 c0 n k:Nat) (l:Lb) (w:World) (h1:1≤n) (h2:n≤8) (h4:4≤len0) (hc:len0≤c0) (hlm:len0≤1048590) (hl:Hid (l.length=len0)) (hk4:Hid (nb (l.take 4)=k)) (hk0:k=0) (hb:Bs w (some ⟨b0,off,none⟩) l) :
  Calls Tryz.prog 170 #[.slice (some ⟨b0,off,none⟩) len0 c0,.int .i64 (n:Int)] w (yaU [] (l.drop 4) w):=by
 have hll:=hl.out
 have hn0:1≤(n:Int):=by omega
 have hn8:(n:Int)≤8:=by omega
 have i0':¬ (len0:Int)<4:=by omega
 have i0:4≤(len0:Int):=by omega
 have i0c:4≤(c0:Int):=by omega
 have i0d:(len0:Int)≤(c0:Int):=by omega
 have i0l:(len0:Int)≤1048590:=by omega
 obtain ⟨n4,GG⟩:=ey (4+n)
 obtain ⟨n5,HN5⟩:=ey (5+n)
 have hn4:4+(n:Int)=(n4:Int):=by rw [GG.out];omega
 have hn5:5+(n:Int)=(n5:Int):=by rw [HN5.out];omega
 have yje:(n4:Int)<(n5:Int):=by omega
 have yjf:4≤(n4:Int):=by omega
 have yjg:(n5:Int)≤13:=by omega
 have HN:=h_ (vC (some ⟨b0,off,none⟩) c0 (l.take 4) w (by rw [List.length_take];omega) (by have h:=jK hb 0 4 (by omega) (Nat.add_zero off).symm;rwa [List.drop_zero] at h))
 rw [show (l.take 4).length=4 by rw [List.length_take];omega,hk4.out] at HN
 have hkb:k<4294967296:=by
  have h:=GQ (l.take 4)
  rw [hk4.out,List.length_take,Nat.min_eq_left (by omega)] at h;exact h
 have ycn:(k:Int)≤4294967295:=by omega
 have hkw:IntKind.i64.wrap (k:Int)=(k:Int):=by rw [IntKind.wrap_i64];omega
 subst hk0
 obtain ⟨l1,HL1⟩:=ey (l.drop 4)
 have hl1:Hid (l1.length=len0-4):=h_ (by rw [HL1.out,List.length_drop];omega)
 have hb1:Hid (∀ W,Be w W→Bs W (some ⟨b0,off+4,none⟩) l1):=h_ (fun W hW=>by rw [HL1.out];exact vH (hb.below hW) 4 (by omega) rfl)
 rw [← HL1.out]
 have yF:Hid (∀ (nq:Nat) (q:Oa) (d:Nat),Bs (w.drewN nq) q l1→yaU [] l1 w (.returned (.tuple #[.slice none 0 0,.slice q (len0-4) d,.bool true])) (w.drewN nq)):=h_ (fun nq q d hq=>⟨yaJ bR _,none,0,q,d,by rw [hl1.out];rfl,Rd.nil _ _,hq⟩)
 by_cases hc4:c0=4
 ·have hl0:len0=4:=by omega
  subst hl0
  subst hc4
  have hz:Hid (∀ nq q,Bs (w.drewN nq) q l1):=h_ (fun nq q=>.inl hl1.out)
  clear hb hll hkb
  go_in
  go_wp2_with fail
  refine (HN.out).mono ?_
  rintro e w' ⟨rfl,rfl⟩
  go_wp2_with fail
  go_quiet (fail)
  go_wp2
  go_ret3
  exact yF.out _ _ _ (hz.out _ _)
 ·have i0e:4<(c0:Int):=by omega
  have hz:Hid (∀ nq,Bs (w.drewN nq) (some ⟨b0,off+4,none⟩) l1):=h_ (fun nq=>hb1.out _ (yaJ bR _))
  clear hb hll hkb
  go_in
  go_wp2_with fail
  refine (HN.out).mono ?_
  rintro e w' ⟨rfl,rfl⟩
  go_wp2_with fail
  go_quiet (fail)
  go_wp2
  go_ret3
  exact yF.out _ _ _ (hz.out _)
end Go.Proofs.YtgepehlpjpccaaaGreatDoor
