/- Contracts. -/
import Derived.Test.YtgepehlpjpccaaaGreatDoorU09
namespace Go.Proofs.YtgepehlpjpccaaaGreatDoor
set_option maxHeartbeats 1600000
set_option maxRecDepth 100000
section
open Go.Lib Big
/-! Convert -/
end
section
open Go.RowKit Go.Lib Big
theorem ywz (x y:Value) (p q:Rat) (K:Nat) (w:World) (hK:2*K+1≤1073741824) (hx:zO w x p K) (hy:zO w y q K):Calls Tryz.prog 134 #[x,y] w (vU (p-q) (2*K+1) w):=by
 obtain ⟨s,a,b,h1,rfl,h3,h4,h5⟩:=hx
 obtain ⟨t,c,d,k1,rfl,k3,k4,k5⟩:=hy
 refine (yuI x y s t a b c d K w hK h4 h5 k4 k5 h3 k3 h1 k1).mono ?_
 rintro e w' ⟨z,r,n,m,rfl,hz,hb,hm,hv,hn,hm2⟩
 exact ⟨z,rfl,⟨r,n,m,hz,hv,hm,hn,hm2⟩,hb⟩
theorem yn8 (x y:ByteArray) (g:Nat) (f:FuncId) (p q r:Rat) (K:Nat) (w:World) (hg:g<w.heap.size) (hcl:w.cell? ⟨g,0,none⟩=some (.func (.func f) #[] #[])) (hx:Hid (Calls Tryz.prog 130 #[.string x] w (GF (some p) w))) (hy:∀ W,Below w.heap.size w W→Hid (Calls Tryz.prog 130 #[.string y] W (GF (some q) W)))
  (ytI:∀ args W,(callFunc f args).run Tryz.prog W=.ok (.enter f args) W) (hop:∀ W u v,Below w.heap.size w W→zO W u p 20→zO W v q 20→Hid (Calls Tryz.prog f #[u,v] W (vU r K W)))
  (ht:∀ W z,Below w.heap.size w W→zO W z r K→Hid (Calls Tryz.prog 131 #[z] W fun e w'=>e=.returned (.string ⟨(GT r).toArray⟩)∧Below W.heap.size W w')):Calls Tryz.prog 129 #[.string x,.string y,.pointer (some ⟨g,0,none⟩)] w fun e w'=>e=.returned (.string ⟨(GT r).toArray⟩)∧Below w.heap.size w w':=by
 have Hcl:=yA hcl
 have Hg:=yA hg
 clear hcl hg
 go_enter Tryz.func129,Tryz.ntmps129
 go_wp2_with fail
 refine hx.out.mono ?_
 rintro e w2 ⟨hb2,b1,p1,n1,c1,q1,m1,d1,rfl,hr1⟩
 have hbw:=yA (hb2.trans ((GB w2 (.cells #[.bool b1,.slice p1 n1 c1,.slice q1 m1 d1] 98)).mono hb2.size))
 have hR1:=yA ((hr1 _ rfl).below (GB w2 (.cells #[.bool b1,.slice p1 n1 c1,.slice q1 m1 d1] 98)))
 have hb1:=yA (yY w2 (.cells #[.bool b1,.slice p1 n1 c1,.slice q1 m1 d1] 98))
 have hy2:=hy _ hbw.out
 clear hb2 hy hr1
 go_wp2_with fail
 refine hy2.out.mono ?_
 rintro e w3 ⟨hb3,b',p',n',c',q',m',d',rfl,hr3⟩
 have ydz:=yA (hbw.out.trans (hb3.mono hbw.out.size))
 have ycB:=yA (ydz.out.trans ((GB w3 (.cells #[.bool b',.slice p' n' c',.slice q' m' d'] 98)).mono ydz.out.size))
 have hA:=yA (GB w3 (.cells #[.bool b',.slice p' n' c',.slice q' m' d'] 98))
 have hR3:=yA ((hr3 _ rfl).below hA.out)
 have hR2:=yA ((hR1.out.below hb3).below hA.out)
 have uZ:=(hb3.trans (hA.out.mono hb3.size)).block w2.heap.size (by simp)
 have hbx:=uZ.trans hb1.out
 have e0:=zU hbx 0
 have e1:=zU hbx 1
 have e2:=zU hbx 2
 have hcl4:=(ycB.out.cell (p:=⟨g,0,none⟩) Hg.out).trans Hcl.out
 have yi0:=hop _ _ _ ycB.out hR2.out hR3.out
 clear hb3 hy2 hr3 uZ hbx hop
 go_wp2_with fail
 refine yi0.out.mono ?_
 rintro e w5 ⟨z,rfl,hz,hb5⟩
 have yfZ:=yA (ycB.out.trans (hb5.mono ycB.out.size))
 have ht5:=ht _ _ yfZ.out hz
 clear hb5 hz ht yi0
 go_wp2_with fail
 refine ht5.out.mono ?_
 rintro e w6 ⟨rfl,hb6⟩
 have ydK:=yA (yfZ.out.trans (hb6.mono yfZ.out.size))
 clear hb6
 go_wp2_with fail
 go_ret
 exact ⟨rfl,ydK.out⟩
theorem yl4 (x y:ByteArray) (g:Nat) (f:FuncId) (F:Rat→Rat→Rat) (K:Nat) (w:World) (hK:K≤1000000) (hg:g<w.heap.size) (hcl:w.cell? ⟨g,0,none⟩=some (.func (.func f) #[] #[])) (htab:Tab w)
  (ytI:∀ args W,(callFunc f args).run Tryz.prog W=.ok (.enter f args) W) (hop:∀ W u v p q,num x.data.toList=some p→num y.data.toList=some q→Below w.heap.size w W→zO W u p 20→zO W v q 20→Calls Tryz.prog f #[u,v] W (vU (F p q) K W)) :
  Calls Tryz.prog 129 #[.string x,.string y,.pointer (some ⟨g,0,none⟩)] w fun e w'=>e=.returned (.string ⟨(opT F x.data.toList y.data.toList).toArray⟩)∧Below w.heap.size w w':=by
 have hx:=yfV x w htab
 have hx':=yb3 x w htab
 have hy:=fun W (hb:Below w.heap.size w W)=>yfV y W (htab.below hb)
 have hy':=fun W (hb:Below w.heap.size w W)=>yb3 y W (htab.below hb)
 cases hnx:num x.data.toList with
 | none =>
  have hr:uD x.data.toList=none:=by unfold num at hnx;simpa using hnx
  rw [hr] at hx
  rw [ypV hnx]
  exact yey x y _ w (yA hx)
 | some p =>
  cases hny:num y.data.toList with
  | none =>
   have hr:uD y.data.toList=none:=by unfold num at hny;simpa using hny
   obtain ⟨t,ht⟩:∃ t,uD x.data.toList=some t:=by
    unfold num at hnx
    rw [Option.map_eq_some_iff] at hnx
    obtain ⟨t,h,-⟩:=hnx;exact ⟨t,h⟩
   rw [ht] at hx
   rw [ypW hny]
   refine yjY x y _ t w (yA hx) fun W hb=>yA ?_
   have:=hy W hb
   rwa [hr] at this
  | some q =>
   rw [ysJ hnx hny]
   rw [hnx] at hx'
   refine yn8 x y g f p q (F p q) K w hg hcl (yA hx') (fun W hb=>yA ?_) ytI (fun W u v hb hu hv=>yA (hop W u v p q hnx hny hb hu hv)) fun W z hb hz=>yA (yk7 z _ K W hK hz (htab.below hb))
   have:=hy' W hb
   rwa [hny] at this
theorem yj1 (x y:ByteArray) (f:FuncId) (F:Rat→Rat→Rat) (K:Nat) (w:World) (hK:K≤1000000) (htab:Tab w)
  (ytI:∀ args W,(callFunc f args).run Tryz.prog W=.ok (.enter f args) W) (hop:∀ W u v p q,num x.data.toList=some p→num y.data.toList=some q→Below w.heap.size w W→zO W u p 20→zO W v q 20→Calls Tryz.prog f #[u,v] W (vU (F p q) K W)) :
  Calls Tryz.prog 129 #[.string x,.string y,.pointer (some ⟨w.heap.size,0,none⟩)] (w.alloc (.cells #[.func (.func f) #[] #[]] 94)) (yaz (opT F x.data.toList y.data.toList) w):=by
 have hb:=GB w (.cells #[.func (.func f) #[] #[]] 94)
 refine (yl4 x y w.heap.size f F K (w.alloc (.cells #[.func (.func f) #[] #[]] 94)) hK (by simp) ?_ (htab.below hb) ytI fun W u v p q h1 h2 h3 h4 h5=>hop W u v p q h1 h2 (hb.trans (h3.mono hb.size)) h4 h5).mono ?_
 ·exact zU (yY w _) 0
 ·rintro e w' ⟨he,hb2⟩
  exact ⟨he,hb.trans (hb2.mono hb.size)⟩
theorem yn9 (x y:ByteArray) (w:World) (h:(y.toList==[48])=true):Calls Tryz.prog 36 #[.string x,.string y] w (yaz [] w):=by
 go_enter Tryz.func36,Tryz.ntmps36
 go_wp2_with fail
 go_ret
 exact ⟨rfl,Below.refl _ _⟩
theorem yl5 (x y:ByteArray) (w:World) (htab:Tab w) (h:(y.toList==[48])=false) (hy:num y.data.toList≠some 0):Calls Tryz.prog 36 #[.string x,.string y] w (yaz (opT (·/·) x.data.toList y.data.toList) w):=by
 have hcl:=yA (yj1 x y 79 (·/·) 40 w (by omega) htab (fun args W=>by kernel_rfl) fun W u v p q _ hq _ hu hv=>yms u v p q 20 W (by omega) (by rintro rfl;exact hy hq) hu hv)
 generalize opT (·/·) x.data.toList y.data.toList=l at hcl ⊢
 clear htab hy
 go_enter Tryz.func36,Tryz.ntmps36
 go_wp2_with fail
 refine (yl2 79 w).mono ?_
 rintro e w1 ⟨rfl,rfl⟩
 go_wp2_with fail
 refine hcl.out.mono ?_
 rintro e w2 ⟨rfl,hb⟩
 have Hb:=yA hb
 clear hb
 go_wp2_with fail
 go_ret
 exact ⟨rfl,Hb.out⟩
theorem yoa (y:ByteArray) (l:List UInt8):(y.toList==l)=decide (y.data.toList=l):=by
 rw [Lib.toList_data]
 by_cases h:y.data.toList=l
 ·rw [decide_eq_true h];simpa using h
 ·rw [decide_eq_false h,beq_eq_false_iff_ne];simpa using h
theorem yxJ (x y:ByteArray) (w:World) (htab:Tab w):Calls Tryz.prog 36 #[.string x,.string y] w (yaz (ymZ x.data.toList y.data.toList) w):=by
 unfold ymZ
 have he:=yoa y [48]
 by_cases h:y.data.toList=[48]
 ·rw [if_pos h]
  rw [decide_eq_true h] at he
  exact yn9 x y w he
 ·rw [if_neg h]
  rw [decide_eq_false h] at he
  exact yl5 x y w htab he fun h2=>h (yjZ.1 h2)
def yas (c:Int × Bool) (w:World) (e:Ending) (w':World):Prop:=e=.returned (.tuple #[.int .i64 c.1,.bool c.2])∧Below w.heap.size w w'
theorem yj2 (x y:ByteArray) (w:World) (hx:Hid (Calls Tryz.prog 130 #[.string x] w (GF none w))):Calls Tryz.prog 85 #[.string x,.string y] w (yas (0,false) w):=by
 go_enter Tryz.func85,Tryz.ntmps85
 go_wp2_with fail
 refine hx.out.mono ?_
 rintro e w2 ⟨hb2,b,p,n,c,q,m,d,rfl,-⟩
 have hbw:=yA (hb2.trans ((GB w2 (.cells #[.bool b,.slice p n c,.slice q m d] 98)).mono hb2.size))
 clear hb2
 go_wp2_with fail
 go_ret2
 exact ⟨rfl,hbw.out⟩
theorem yj3 (x y:ByteArray) (r:Rat) (w:World) (hx:Hid (Calls Tryz.prog 130 #[.string x] w (GF (some r) w))) (hy:∀ W,Below w.heap.size w W→Hid (Calls Tryz.prog 130 #[.string y] W (GF none W))):Calls Tryz.prog 85 #[.string x,.string y] w (yas (0,false) w):=by
 go_enter Tryz.func85,Tryz.ntmps85
 go_wp2_with fail
 refine hx.out.mono ?_
 rintro e w2 ⟨hb2,b,p,n,c,q,m,d,rfl,-⟩
 have hbw:=yA (hb2.trans ((GB w2 (.cells #[.bool b,.slice p n c,.slice q m d] 98)).mono hb2.size))
 have hy2:=hy _ hbw.out
 clear hb2 hy
 go_wp2_with fail
 refine hy2.out.mono ?_
 rintro e w3 ⟨hb3,b',p',n',c',q',m',d',rfl,-⟩
 have ydz:=yA (hbw.out.trans (hb3.mono hbw.out.size))
 have ycB:=yA (ydz.out.trans ((GB w3 (.cells #[.bool b',.slice p' n' c',.slice q' m' d'] 98)).mono ydz.out.size))
 clear hb3
 go_wp2_with fail
 go_ret2
 exact ⟨rfl,ycB.out⟩
theorem yob (x y:ByteArray) (p q:Rat) (w:World) (hx:Hid (Calls Tryz.prog 130 #[.string x] w (GF (some p) w))) (hy:∀ W,Below w.heap.size w W→Hid (Calls Tryz.prog 130 #[.string y] W (GF (some q) W))):Calls Tryz.prog 85 #[.string x,.string y] w (yas (ybA (p-q),true) w):=by
 have hop:Hid (∀ W u v,zO W u p 20→zO W v q 20→Calls Tryz.prog 134 #[u,v] W (vU (p-q) 41 W)):=yA fun W u v hu hv=>ywz u v p q 20 W (by omega) hu hv
 have hsg:Hid (∀ W z,zO W z (p-q) 41→Calls Tryz.prog 135 #[z] W fun e w'=>e=.returned (.int .i64 (ybA (p-q)))∧Below W.heap.size W w'):=yA fun W z hz=>yo2 z (p-q) 41 W hz
 generalize ybA (p-q)=c at hsg ⊢
 go_enter Tryz.func85,Tryz.ntmps85
 go_wp2_with fail
 refine hx.out.mono ?_
 rintro e w2 ⟨hb2,b1,p1,n1,c1,q1,m1,d1,rfl,hr1⟩
 have hbw:=yA (hb2.trans ((GB w2 (.cells #[.bool b1,.slice p1 n1 c1,.slice q1 m1 d1] 98)).mono hb2.size))
 have hR1:=yA ((hr1 _ rfl).below (GB w2 (.cells #[.bool b1,.slice p1 n1 c1,.slice q1 m1 d1] 98)))
 have hb1:=yA (yY w2 (.cells #[.bool b1,.slice p1 n1 c1,.slice q1 m1 d1] 98))
 have hy2:=hy _ hbw.out
 clear hb2 hy hr1
 go_wp2_with fail
 refine hy2.out.mono ?_
 rintro e w3 ⟨hb3,b',p',n',c',q',m',d',rfl,hr3⟩
 have ydz:=yA (hbw.out.trans (hb3.mono hbw.out.size))
 have ycB:=yA (ydz.out.trans ((GB w3 (.cells #[.bool b',.slice p' n' c',.slice q' m' d'] 98)).mono ydz.out.size))
 have hA:=yA (GB w3 (.cells #[.bool b',.slice p' n' c',.slice q' m' d'] 98))
 have hR3:=yA ((hr3 _ rfl).below hA.out)
 have hR2:=yA ((hR1.out.below hb3).below hA.out)
 have uZ:=(hb3.trans (hA.out.mono hb3.size)).block w2.heap.size (by simp)
 have hbx:=uZ.trans hb1.out
 have e0:=zU hbx 0
 have e1:=zU hbx 1
 have e2:=zU hbx 2
 have yi0:=yA (hop.out _ _ _ hR2.out hR3.out)
 clear hb3 hy2 hr3 uZ hbx
 go_wp2_with fail
 refine yi0.out.mono ?_
 rintro e w5 ⟨z,rfl,hz,hb5⟩
 have yfZ:=yA (ycB.out.trans (hb5.mono ycB.out.size))
 have ht5:=yA (hsg.out _ _ hz)
 clear hb5 hz yi0
 go_wp2_with fail
 refine ht5.out.mono ?_
 rintro e w6 ⟨rfl,hb6⟩
 have ydK:=yA (yfZ.out.trans (hb6.mono yfZ.out.size))
 clear hb6
 go_wp2_with fail
 go_ret2
 exact ⟨rfl,ydK.out⟩
theorem ypZ (x y:ByteArray) (w:World) (htab:Tab w):Calls Tryz.prog 85 #[.string x,.string y] w (yas (yes x.data.toList y.data.toList) w):=by
 have hx:=yb3 x w htab
 have hy:=fun W (hb:Below w.heap.size w W)=>yb3 y W (htab.below hb)
 unfold yes
 cases hnx:num x.data.toList with
 | none=>rw [hnx] at hx;exact yj2 x y w (yA hx)
 | some p =>
  rw [hnx] at hx
  cases hny:num y.data.toList with
  | none=>rw [hny] at hy;exact yj3 x y p w (yA hx) fun W hb=>yA (hy W hb)
  | some q=>rw [hny] at hy;exact yob x y p q w (yA hx) fun W hb=>yA (hy W hb)
/-! isPositive -/
end
def ym0 (l:List UInt8) (n j:Nat):Nat→List UInt8
 | 0=>[]
 | m+1=>ym0 l n j m++[l.getD (m*n+j) 0]
def yeC (l:List UInt8) (n k:Nat):Nat→List UInt8
 | 0=>[]
 | m+1=>yeC l n k m++ym0 l n m k
def yaM (l:List UInt8) (n:Nat):List UInt8:=yeC l n (l.length/n) n++l.drop (l.length/n*n)
theorem yaX (l:List UInt8) (n j:Nat):∀ m,(ym0 l n j m).length=m
 | 0=>rfl
 | m+1=>by rw [ym0,List.length_append,yaX l n j m];rfl
theorem jJ (l:List UInt8) (n k:Nat):∀ m,(yeC l n k m).length=m*k
 | 0=>by simp [yeC]
 | m+1=>by rw [yeC,List.length_append,jJ l n k m,yaX,Nat.succ_mul]
theorem yk8 (l:List UInt8) (n j:Nat):∀ m i,i<m→(ym0 l n j m).getD i 0=l.getD (i*n+j) 0
 | m+1,i,h=>by
  rw [ym0,List.getD_eq_getElem?_getD]
  by_cases hi:i<m
  ·rw [List.getElem?_append_left (by rw [yaX];exact hi),← List.getD_eq_getElem?_getD,yk8 l n j m i hi]
  ·obtain rfl:i=m:=by omega
   rw [List.getElem?_append_right (by rw [yaX];omega),yaX];simp
theorem yeT (l:List UInt8) (n k:Nat):∀ m j i,j<m→i<k→(yeC l n k m).getD (j*k+i) 0=l.getD (i*n+j) 0
 | m+1,j,i,hj,hi=>by
  rw [yeC,List.getD_eq_getElem?_getD]
  by_cases h:j<m
  ·have hlt:j*k+i<m*k:=by
    have h1:(j+1)*k≤m*k:=Nat.mul_le_mul_right _ h
    rw [Nat.succ_mul] at h1;omega
   rw [List.getElem?_append_left (by rw [jJ];exact hlt),← List.getD_eq_getElem?_getD,yeT l n k m j i h hi]
  ·obtain rfl:j=m:=by omega
   rw [List.getElem?_append_right (by rw [jJ];omega),jJ,show j*k+i-j*k=i by omega,← List.getD_eq_getElem?_getD,yk8 l n j k i hi]
theorem jX (l:List UInt8) {n:Nat}:(yaM l n).length=l.length:=by
 unfold yaM
 rw [List.length_append,jJ,List.length_drop,Nat.mul_comm n]
 have:=Nat.div_mul_le_self l.length n
 omega
theorem ybG {n k i j:Nat} (hi:i<k) (hj:j<n):i*n+j<k*n:=by
 have h1:(i+1)*n≤k*n:=Nat.mul_le_mul_right _ hi
 rw [Nat.succ_mul] at h1;omega
theorem yiq (l:List UInt8) {n i j:Nat} (hi:i<l.length/n) (hj:j<n):(yaM l n).getD (j*(l.length/n)+i) 0=l.getD (i*n+j) 0:=by
 unfold yaM
 rw [List.getD_eq_getElem?_getD,List.getElem?_append_left (by rw [jJ];exact ybG hj hi),← List.getD_eq_getElem?_getD]
 exact yeT l n _ n j i hj hi
theorem ygQ (l:List UInt8) {n t:Nat} (h:l.length/n*n≤t):(yaM l n).getD t 0=l.getD t 0:=by
 unfold yaM
 rw [List.getD_eq_getElem?_getD,List.getElem?_append_right (by rw [jJ,Nat.mul_comm n];exact h),jJ,List.getElem?_drop,Nat.mul_comm n,show l.length/n*n+(t-l.length/n*n)=t by omega,← List.getD_eq_getElem?_getD]
theorem ygw {a b:List UInt8} (h:a.length=b.length) (hg:∀ t,t<a.length→a.getD t 0=b.getD t 0):a=b:=by
 refine List.ext_getElem h fun t h1 h2=>?_
 have:=hg t h1
 simpa [List.getD_eq_getElem?_getD,h1,h2] using this
theorem yaI {n k t:Nat} (h:t<k*n) (hn:0<n):∃ i j,i<k∧j<n∧t=i*n+j :=
 ⟨t/n,t%n,(Nat.div_lt_iff_lt_mul hn).2 h,Nat.mod_lt _ hn,by rw [Nat.mul_comm];exact (Nat.div_add_mod t n).symm⟩
section
open Go.RowKit
open Go.Lib
def nb (l:List UInt8):Nat:=l.foldl (fun x c=>x*256+c.toNat) 0
theorem yuQ (l:List UInt8) (c:UInt8):nb (l++[c])=nb l*256+c.toNat:=by unfold nb;rw [List.foldl_append];rfl
theorem yuR (l:List UInt8):∀ x,l.foldl (fun x (c:UInt8)=>x*256+c.toNat) x<(x+1)*256^l.length:=by
 induction l with
 | nil=>intro x;simp
 | cons c l ih =>
  intro x
  have h:=ih (x*256+c.toNat)
  have h2:=c.toNat_lt
  rw [List.foldl_cons,List.length_cons,Nat.pow_succ]
  refine Nat.lt_of_lt_of_le h ?_
  rw [Nat.mul_comm (256^l.length) 256,← Nat.mul_assoc]
  exact Nat.mul_le_mul_right _ (by omega)
theorem yeD (l:List UInt8):nb l<256^l.length:=by
 have:=yuR l 0
 unfold nb;omega
theorem yge {l:List UInt8} (h:l.length≤8):nb l<18446744073709551616 :=
 Nat.lt_of_lt_of_le (yeD l) (Nat.le_trans (Nat.pow_le_pow_right (by omega) h) (by decide))
theorem ywA {S d:Nat} (hS:S*256+255<18446744073709551616) (hd:(d:Int)≤255):bits .or .u64 (IntKind.u64.wrap ((S:Int)*256)) (d:Int)=((S*256+d:Nat):Int):=by
 have h1:IntKind.u64.wrap ((S:Int)*256)=((S*256:Nat):Int):=by rw [IntKind.wrap_u64];omega
 rw [h1,u64_or_nat _ _ (by omega) (by omega),nat_join 8 (S*256) d (by omega) (by omega)]
theorem yuS {l:List UInt8} {k:Nat} (hk:k<l.length) (hl:l.length≤8):nb (l.take k)*256+255<18446744073709551616:=by
 have h1:=yeD (l.take k)
 rw [List.length_take,Nat.min_eq_left (by omega)] at h1
 have h2:256^k≤256^7:=Nat.pow_le_pow_right (by omega) (by omega)
 have h3:(256:Nat)^7=72057594037927936:=by decide
 omega
theorem jS (p:Option Addr) (c:Nat) (l:List UInt8) (w:World) (hn:l.length≤8) (hb:Bs w p l) :
  Calls Tryz.prog 197 #[.slice p l.length c] w fun e w'=>e=.returned (.int .u64 (nb l:Int))∧w=w':=by
 have HB:=Lib.hid hb
 clear hb
 obtain ⟨n,HN⟩:∃ n,Hid (n=l.length):=⟨_,rfl⟩
 rw [← HN.out] at hn ⊢
 have hni:(n:Int)≤8:=by omega
 go_enter Tryz.func197,Tryz.ntmps197
 go_wp2_with fail
 go_loop [3,8] (fun s i=>∃ k S:Nat,k≤n∧i=.int .i64 k∧s=.int .u64 (S:Int)∧Hid (S=nb (l.take k))) (fun _ i=>n-(intOf i).toNat)
 case atStart=>exact ⟨0,0,Nat.zero_le _,rfl,rfl,rfl⟩
 case round =>
  obtain ⟨k,S,hk,rfl,rfl,HS⟩:=hrel
  by_cases hlt:k<n
  ·obtain ⟨b1,o1,d,rfl,hb1,hc1,hd,hd2⟩:=HB.out.at (k:=k) (by rw [← HN.out];exact hlt)
   go_wp2_with fail
   go_round
   case rel=>exact ⟨k+1,S*256+d,by omega,by go_num,by rw [ywA (by rw [HS.out];exact yuS (by rw [← HN.out];exact hlt) (by rw [← HN.out];exact hn)) hd2],Lib.hid (by rw [HS.out,← hd.out,yhR (by rw [← HN.out];exact hlt),yuQ])⟩
   case measure=>simp [intOf];omega
  ·obtain rfl:k=n:=by omega
   go_wp2_with fail
   go_ret
   refine ⟨?_,rfl⟩
   show Ending.returned (.int .u64 (S:Int))=_
   rw [HS.out,HN.out,List.take_length]
theorem ya8 {w:World} {b off n:Nat} {l:List UInt8} (h:Bs w (some ⟨b,off,none⟩) l) (k m:Nat) (hk:k+m≤l.length) (hn:n=off+k):Bs w (some ⟨b,n,none⟩) ((l.drop k).take m):=by
 subst hn
 rcases h with h0|⟨b1,o1,h1,h2,h3⟩
 ·exact .inl (by simp;omega)
 ·cases h1
  refine .inr ⟨b,off+k,rfl,h2,fun j hj=>?_⟩
  have hj2:j<m:=by simp at hj;omega
  rw [Nat.add_assoc,h3 (k+j) (by omega)]
  simp [List.getD_eq_getElem?_getD,hj2]
theorem yaA {w:World} {b off n:Nat} {l:List UInt8} (h:Bs w (some ⟨b,off,none⟩) l) (k:Nat) (hk:k≤l.length) (hn:n=off+k):Bs w (some ⟨b,n,none⟩) (l.drop k):=by
 have:=ya8 h k (l.length-k) (by omega) hn
 rwa [List.take_of_length_le (by simp)] at this
def jY (L:List UInt8) (w:World) (e:Ending) (w':World):Prop:=Below w.heap.size w w'∧∃ v,e=.returned (.tuple #[v,.int .i64 0])∧w'.ownsRow w.heap.size 5 1 v L.length (zS L)
theorem ysP (n:Int) (w:World) (h:n<1∨8<n):Calls Tryz.prog 84 #[.int .i64 n] w fun e w'=>e=.returned (.bool false)∧w=w':=by
 by_cases h1:n<1
 ·have h1':decide (1≤n)=false:=by simp;omega
  clear h
  go_enter Tryz.func84,Tryz.ntmps84
  go_wp2_with fail
  go_ret
  exact ⟨rfl,rfl⟩
 ·have h2:decide (n≤8)=false:=by simp;omega
  clear h
  go_enter Tryz.func84,Tryz.ntmps84
  go_wp2_with fail
  go_ret
  exact ⟨rfl,rfl⟩
theorem yo3 (n:Nat) (w:World) (h1:1≤n) (h2:n≤8):Calls Tryz.prog 84 #[.int .i64 (n:Int)] w fun e w'=>e=.returned (.bool true)∧w=w':=by
 have h1':decide (1≤(n:Int))=true:=by simp;omega
 have h2':decide ((n:Int)≤8)=true:=by simp;omega
 clear h1 h2
 go_enter Tryz.func84,Tryz.ntmps84
 go_wp2_with fail
 go_ret
 exact ⟨rfl,rfl⟩
theorem ybr (p:Option Addr) (k c n:Nat) (w:World) (h1:1≤n) (h2:n≤8) (hk:k≤1048576):Calls Tryz.prog 147 #[.slice p k c,.int .i64 (n:Int)] w fun e w'=>e=.returned (.int .i64 0)∧w=w':=by
 have H:=Lib.hid (yo3 n w h1 h2)
 have hk':(k:Int)≤1048576:=by omega
 clear h1 h2 hk
 go_enter Tryz.func147,Tryz.ntmps147
 go_wp2_with fail
 refine (H.out).mono ?_
 rintro e w' ⟨rfl,rfl⟩
 go_wp2_with fail
 go_ret
 exact ⟨rfl,rfl⟩
end
end Go.Proofs.YtgepehlpjpccaaaGreatDoor
