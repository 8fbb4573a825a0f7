/- Contracts. -/
import Derived.Test.YtfjnipkpfbkegaaGreatDoorPart08
set_option maxHeartbeats 1600000
set_option maxRecDepth 100000
namespace Go.Proofs.YtfjnipkpfbkegaaGreatDoor
section
open Go.RowKit Go.Lib Big
theorem yen (y:Nat):decDigits y=[49]↔y=1:=by
 constructor
 ·intro h
  have h1:=congrArg List.length h
  rw [decDigits_length] at h1
  have hy:y<10:=by
   have:=lt_pow_nDigits y
   rw [h1] at this;simpa using this
  rw [decDigits_one hy] at h
  match y,hy with
  | 0,_=>revert h;decide
  | 1,_=>rfl
  | 2,_=>revert h;decide
  | 3,_=>revert h;decide
  | 4,_=>revert h;decide
  | 5,_=>revert h;decide
  | 6,_=>revert h;decide
  | 7,_=>revert h;decide
  | 8,_=>revert h;decide
  | 9,_=>revert h;decide
 ·rintro rfl
  rw [decDigits_one (by omega)];rfl
theorem ycn (y:Nat):(⟨(decDigits y).toArray⟩:ByteArray).size=nDigits y:=by rw [size_toArray,decDigits_length]
theorem ypA (y:Nat):((⟨(decDigits y).toArray⟩:ByteArray).toList==[49])=decide (y=1):=by
 rw [Lib.toList_data]
 by_cases h:y=1
 ·rw [(yen y).2 h];subst h;decide
 ·have h2:decDigits y≠[49]:=fun e=>h ((yen y).1 e)
  simp only [h,decide_false]
  rw [beq_eq_false_iff_ne]
  simpa using h2
theorem yjK (x:Value) (s:Bool) (a b K D:Nat) (w:World) (hK:K≤1000000) (hD:D≤100000) (ha:a<yC^K) (hb:b<yC^K) (hb0:0<b) (hx:uF w x s a b) (htab:Tab w):Calls Tryz.prog 89 #[x,.int .i64 D] w (ydq (ycx s a b D) w):=by
 obtain ⟨u,v,rfl,hu,hv,hs⟩:=hx
 have hD':(D:Int)≤100000:=by omega
 have hL:(D:Int)/19+1=((D/19+1:Nat):Int):=by omega
 have yae:∀ W:World,Below w.heap.size w W→Calls Tryz.prog 115 #[u,v,.int .i64 ((D/19+1:Nat):Int)] W (yao a b (D/19+1) W):=fun W hW =>
  yld u v a b (D/19+1) K W (by omega) (by omega) ha hb hb0 (hu.below hW) (hv.below hW)
 unfold ycx
 by_cases yeO:a/Nat.gcd a b<yC^(D/19+1)∧b/Nat.gcd a b<yC^(D/19+1)
 ·have hok:∀ W:World,Below w.heap.size w W→Hid (Calls Tryz.prog 115 #[u,v,.int .i64 ((D/19+1:Nat):Int)] W (yey ⟨(decDigits (a/Nat.gcd a b)).toArray⟩ ⟨(decDigits (b/Nat.gcd a b)).toArray⟩ W)):=fun W hW=>yA ((yae W hW).mono fun e w' h=>by
   obtain ⟨hbl,h|h⟩:=h
   ·obtain ⟨-,-,tv,uv,he,h1,h2⟩:=h
    refine ⟨hbl,tv,uv,he,fun W2 hW2=>⟨yA ?_,yA ?_⟩⟩
    ·exact yi7 tv _ (D/19+1) W2 (by omega) yeO.1 (h1.below hW2) (((htab.below hW).below hbl).below hW2)
    ·exact yi7 uv _ (D/19+1) W2 (by omega) yeO.2 (h2.below hW2) (((htab.below hW).below hbl).below hW2)
   ·exact absurd yeO h.1)
  generalize a/Nat.gcd a b=n at hok ⊢
  generalize b/Nat.gcd a b=d at hok ⊢
  by_cases h1:D<nDigits n
  ·rw [if_neg (by omega)]
   exact yhP s u v D w hD' _ hL _ _ hok (by rw [ycn];exact h1)
  ·by_cases h2:D<nDigits d
   ·rw [if_neg (by omega)]
    exact yhQ s u v D w hD' _ hL _ _ hok (by rw [ycn];exact h1) (by rw [ycn];exact h2)
   ·rw [if_pos (by omega)]
    have k1:¬ D<(⟨(decDigits n).toArray⟩:ByteArray).size:=by rw [ycn];exact h1
    have k2:¬ D<(⟨(decDigits d).toArray⟩:ByteArray).size:=by rw [ycn];exact h2
    have z1:((⟨(decDigits n).toArray⟩:ByteArray).size:Int)≤100000:=by omega
    have z2:((⟨(decDigits d).toArray⟩:ByteArray).size:Int)≤100000:=by omega
    have jW:=ypA d
    by_cases hd1:d=1
    ·rw [decide_eq_true hd1] at jW
     rw [if_pos hd1]
     cases s
     ·exact (yeU u v D w hD' _ hL _ _ hok k1 k2 z1 jW z2).mono fun e w' h=>⟨h.2,by rw [h.1];simp⟩
     ·exact (yeS u v D w hD' _ hL _ _ hok k1 k2 z1 jW z2).mono fun e w' h=>⟨h.2,by rw [h.1];simp;rfl⟩
    ·rw [decide_eq_false hd1] at jW
     rw [if_neg hd1]
     cases s
     ·exact (yeV u v D w hD' _ hL _ _ hok k1 k2 z1 jW z2).mono fun e w' h=>⟨h.2,by rw [h.1];simp;rfl⟩
     ·exact (yeT u v D w hD' _ hL _ _ hok k1 k2 z1 jW z2).mono fun e w' h=>⟨h.2,by rw [h.1];simp;rfl⟩
 ·have hbad:¬ (nDigits (a/Nat.gcd a b)≤D∧nDigits (b/Nat.gcd a b)≤D):=by
   intro h
   apply yeO
   constructor
   ·apply Decidable.byContradiction;intro h2;have:=ydc h2;omega
   ·apply Decidable.byContradiction;intro h2;have:=ydc h2;omega
  rw [if_neg hbad]
  refine yhO s u v D w hD' _ hL fun W hW=>yA ((yae W hW).mono fun e w' h=>?_)
  obtain ⟨hbl,h|h⟩:=h
  ·exact absurd ⟨h.1,h.2.1⟩ yeO
  ·exact ⟨h.2,hbl⟩
def yaa (s:Bool) (a b:Nat):List UInt8:=(ycx s a b 40).getD []
theorem ygT (x:Value) (s:Bool) (a b K:Nat) (w:World) (hK:K≤1000000) (ha:a<yC^K) (hb:b<yC^K) (hb0:0<b) (hx:uF w x s a b) (htab:Tab w):Calls Tryz.prog 60 #[x] w fun e w'=>e=.returned (.string ⟨(yaa s a b).toArray⟩)∧Below w.heap.size w w':=by
 have ht:∀ o,Hid (Calls Tryz.prog 89 #[x,.int .i64 40] (w.alloc o) fun e w'=>Below (w.alloc o).heap.size (w.alloc o) w'∧∃ f,e=.returned (.tuple #[.string ⟨(yaa s a b).toArray⟩,.bool f])):=fun o=>yA (by
  have h:=yjK x s a b K 40 (w.alloc o) hK (by omega) ha hb hb0 (hx.below (zK w o)) (htab.below (zK w o))
  refine h.mono fun e w' h=>⟨h.1,?_⟩
  unfold yaa
  cases hr:ycx s a b 40 with
  | none=>have:=h.2;rw [hr] at this;exact ⟨_,this⟩
  | some l=>have:=h.2;rw [hr] at this;exact ⟨_,this⟩)
 obtain ⟨u,v,rfl,-,-,-⟩:=hx
 clear ha hb htab
 go_enter Tryz.func60,Tryz.ntmps60
 go_wp2_with fail
 refine (ht _).out.mono ?_
 rintro e w2 ⟨hb2,f,rfl⟩
 have hbw:=yA ((zK w _).trans (hb2.mono (zK w (.cells #[.bool s,u,v] 64)).size))
 clear hb2
 go_wp2_with fail
 go_ret
 exact ⟨rfl,hbw.out⟩
theorem ydr {l:List UInt8} (h:yR l=true) (hl:l.length≤90):yX l<yC^20:=by
 have h1:=ybS l (jM h)
 have h2:10^l.length≤10^90:=Nat.pow_le_pow_right (by omega) hl
 have h3:(10^90:Nat)≤yC^20:=by rw [yQ];decide
 omega
theorem ylk {l:List UInt8} {n d:Nat} (h:vY l=some (n,d)) (hl:l.length≤90):n<yC^20∧d<yC^20∧0<d:=by
 unfold vY at h
 obtain ⟨k1,k2,k3⟩:=ycw l 46
 obtain ⟨m1,m2,m3⟩:=ycw l 47
 have h3:(10^90:Nat)<yC^20:=by rw [yQ];decide
 have h1:1<yC^20:=by rw [yQ];decide
 split at h
 ·split at h
  ·rename_i hd
   rw [Bool.and_eq_true] at hd
   simp only [Option.some.injEq,Prod.mk.injEq] at h
   obtain ⟨rfl,rfl⟩:=h
   have e1:yR ((Lib.cut l [46]).1++(Lib.cut l [46]).2.1)=true:=by
    unfold yR
    rw [List.all_append,jM hd.1,jM hd.2]
    have:=hd.1
    unfold yR at this
    simp at this ⊢
    intro h;exact absurd h this.2
   refine ⟨ydr e1 (by rw [List.length_append];omega),?_,Nat.pow_pos (by omega)⟩
   have:10^(Lib.cut l [46]).2.1.length≤10^90:=Nat.pow_le_pow_right (by omega) (by omega)
   omega
  ·cases h
 ·split at h
  ·split at h
   ·rename_i hd
    rw [Bool.and_eq_true,Bool.and_eq_true] at hd
    simp only [Option.some.injEq,Prod.mk.injEq] at h
    obtain ⟨rfl,rfl⟩:=h
    refine ⟨ydr hd.1.1 (by omega),ydr hd.1.2 (by omega),?_⟩
    have:=hd.2
    simp at this;omega
   ·cases h
  ·split at h
   ·rename_i hd
    simp only [Option.some.injEq,Prod.mk.injEq] at h
    obtain ⟨rfl,rfl⟩:=h
    exact ⟨ydr hd hl,h1,by omega⟩
   ·cases h
theorem yfj {l:List UInt8} {s:Bool} {n d:Nat} (h:jL l=some (s,n,d)) (hl:l.length≤90):n<yC^20∧d<yC^20∧0<d:=by
 unfold jL at h
 rw [Option.map_eq_some_iff] at h
 obtain ⟨⟨n',d'⟩,h1,h2⟩:=h
 cases h2
 exact ylk h1 (Nat.le_trans (yfh l) hl)
def GH (l:List UInt8):Option (Bool × Nat × Nat) :=
 if 82<l.length then none else
 match jL l with
 | some (s,n,d)=>if yaa (s&&!(n==0)) n d=l then some (s&&!(n==0),n,d) else none
 | none=>none
theorem yll (s:ByteArray) (w:World) (h:(82:Int)<s.size):Calls Tryz.prog 41 #[.string s] w (jZ none w):=by
 have yP:=yA (Res.start w)
 go_enter Tryz.func41,Tryz.ntmps41
 go_wp2_with fail
 refine bodyPost_ret (v:=.tuple #[.agg #[.bool false,.slice none 0 0,.slice none 0 0],.bool false]) (by simp [results,Tryz.results41,go_sem]) rfl ?_
 exact ⟨yP.out.below,rfl⟩
theorem ylm (s:ByteArray) (w:World) (h:(s.size:Int)≤82) (hr:∀ W,Hid (Calls Tryz.prog 74 #[.string s] W (jZ none W))):Calls Tryz.prog 41 #[.string s] w (jZ none w):=by
 have yP:=yA (Res.start w)
 go_enter Tryz.func41,Tryz.ntmps41
 go_wp2_with fail
 refine (hr _).out.mono ?_
 rintro e w2 ⟨hb2,rfl⟩
 have yeB:=yA ((yP.out.next hb2).next (zK w2 (.cells #[.bool false,.slice none 0 0,.slice none 0 0] 64)))
 obtain ⟨z0,z1,z2,l0,l1,l2,f0,f1,f2⟩:=yeB.out.slots
 have q3:=yA (yeB.out.put3 (Nat.le_refl _) false none none 0 0 0 0).below
 clear hb2
 go_wp2_with fail
 refine bodyPost_ret (v:=.tuple #[.agg #[.bool false,.slice none 0 0,.slice none 0 0],.bool false]) (by simp [results,Tryz.results41,go_sem,l0,l1,l2]) rfl ?_
 exact ⟨q3.out,rfl⟩
structure Boxed (w W:World) (g:Nat) (sg:Bool) (u v:Value) (n d:Nat):Prop where
 res:Res w.heap.size w W
 box:W.heap[g]?=some (.cells #[.bool sg,u,v] 64 (0,0))
 top:yH W u n
 bot:yH W v d
 gt:w.heap.size<g
 sign:sg=true→0<n
theorem Boxed.next {w W W':World} {g:Nat} {sg:Bool} {u v:Value} {n d:Nat} (h:Boxed w W g sg u v n d) (hb:Below W.heap.size W W'):Boxed w W' g sg u v n d:=by
 have hg:g<W.heap.size:=by
  rcases Nat.lt_or_ge g W.heap.size with h1|h1
  ·exact h1
  ·have:=h.box;rw [Array.getElem?_eq_none h1] at this;cases this
 exact ⟨h.res.next hb,(hb.block g hg).trans h.box,h.top.below hb,h.bot.below hb,h.gt,h.sign⟩
theorem Boxed.start {w w2:World} {sg:Bool} {u v:Value} {n d:Nat} (hr:Res w.heap.size w w2) (hx:uF w2 (.agg #[.bool sg,u,v]) sg n d):Boxed w (w2.alloc (.cells #[.bool sg,u,v] 64)) w2.heap.size sg u v n d:=by
 obtain ⟨u',v',he,h1,h2,h3⟩:=hx
 cases he
 exact ⟨hr.next (zK _ _),yV _ _,h1.below (zK _ _),h2.below (zK _ _),by have:=hr.size;omega,h3⟩
theorem Boxed.cells {w W:World} {g:Nat} {sg:Bool} {u v:Value} {n d:Nat} (h:Boxed w W g sg u v n d):W.cell? ⟨g,0,none⟩=some (.bool sg)∧W.cell? ⟨g,1,none⟩=some u∧W.cell? ⟨g,2,none⟩=some v:=⟨yB h.box 0,yB h.box 1,yB h.box 2⟩
theorem yjL (s y:ByteArray) (sg:Bool) (n d:Nat) (w:World) (h:(s.size:Int)≤82) (hr:∀ W,Hid (Calls Tryz.prog 74 #[.string s] W fun e w'=>Below W.heap.size W w'∧∃ x,e=.returned (.tuple #[x,.bool true])∧uF w' x sg n d))
  (ht:∀ W x,uF W x sg n d→Below w.heap.size w W→Hid (Calls Tryz.prog 60 #[x] W fun e w'=>e=.returned (.string y)∧Below W.heap.size W w')) (hne:(y.toList==s.toList)=false):Calls Tryz.prog 41 #[.string s] w (jZ none w):=by
 have yP:=yA (Res.start w)
 go_enter Tryz.func41,Tryz.ntmps41
 go_wp2_with fail
 refine (hr _).out.mono ?_
 rintro e w2 ⟨hb2,x,rfl,hx⟩
 obtain ⟨u,v,rfl,hu,hv,hs⟩:=hx
 obtain ⟨p2,n2,k2,rfl⟩:=hu.slice
 obtain ⟨p3,n3,k3,rfl⟩:=hv.slice
 have hB:=yA (Boxed.start (yP.out.next hb2) ⟨_,_,rfl,hu,hv,hs⟩)
 have ht2:=ht (w2.alloc (.cells #[.bool sg,.slice p2 n2 k2,.slice p3 n3 k3] 64)) (.agg #[.bool sg,.slice p2 n2 k2,.slice p3 n3 k3]) ⟨_,_,rfl,hB.out.top,hB.out.bot,hs⟩ hB.out.res.below
 clear hb2 hu hv hs
 go_wp2_with fail
 refine ht2.out.mono ?_
 rintro e w4 ⟨rfl,hb4⟩
 have hB4:=yA (hB.out.next hb4)
 obtain ⟨z0,z1,z2,l0,l1,l2,f0,f1,f2⟩:=hB4.out.res.slots
 have q3:=yA (hB4.out.res.put3 (Nat.le_refl _) false none none 0 0 0 0).below
 clear hb4 ht2
 go_wp2_with fail
 refine bodyPost_ret (v:=.tuple #[.agg #[.bool false,.slice none 0 0,.slice none 0 0],.bool false]) (by simp [results,Tryz.results41,go_sem,l0,l1,l2]) rfl ?_
 exact ⟨q3.out,rfl⟩
theorem yln (s y:ByteArray) (sg:Bool) (n d:Nat) (w:World) (h:(s.size:Int)≤82) (hr:∀ W,Hid (Calls Tryz.prog 74 #[.string s] W fun e w'=>Below W.heap.size W w'∧∃ x,e=.returned (.tuple #[x,.bool true])∧uF w' x sg n d))
  (ht:∀ W x,uF W x sg n d→Below w.heap.size w W→Hid (Calls Tryz.prog 60 #[x] W fun e w'=>e=.returned (.string y)∧Below W.heap.size W w')) (hne:(y.toList==s.toList)=true):Calls Tryz.prog 41 #[.string s] w fun e w'=>Below w.heap.size w w'∧∃ x,e=.returned (.tuple #[x,.bool true])∧uF w' x sg n d:=by
 have yP:=yA (Res.start w)
 go_enter Tryz.func41,Tryz.ntmps41
 go_wp2_with fail
 refine (hr _).out.mono ?_
 rintro e w2 ⟨hb2,x,rfl,hx⟩
 obtain ⟨u,v,rfl,hu,hv,hs⟩:=hx
 obtain ⟨p2,n2,k2,rfl⟩:=hu.slice
 obtain ⟨p3,n3,k3,rfl⟩:=hv.slice
 have hB:=yA (Boxed.start (yP.out.next hb2) ⟨_,_,rfl,hu,hv,hs⟩)
 have ht2:=ht (w2.alloc (.cells #[.bool sg,.slice p2 n2 k2,.slice p3 n3 k3] 64)) (.agg #[.bool sg,.slice p2 n2 k2,.slice p3 n3 k3]) ⟨_,_,rfl,hB.out.top,hB.out.bot,hs⟩ hB.out.res.below
 clear hb2 hu hv
 have Hs:=yA hs
 clear hs
 go_wp2_with fail
 refine ht2.out.mono ?_
 rintro e w4 ⟨rfl,hb4⟩
 have hB4:=yA (hB.out.next hb4)
 obtain ⟨z0,z1,z2,l0,l1,l2,f0,f1,f2⟩:=hB4.out.res.slots
 obtain ⟨c0,c1,c2⟩:=hB4.out.cells
 have yE:Hid (∀ W,W=(((w4.setCell ⟨w.heap.size,0,none⟩ (.bool sg)).setCell ⟨w.heap.size,1,none⟩ (.slice p2 n2 k2)).setCell ⟨w.heap.size,2,none⟩ (.slice p3 n3 k3))→Below w.heap.size w W∧∃ x,Ending.returned (.tuple #[.agg #[.bool sg,.slice p2 n2 k2,.slice p3 n3 k3],.bool true])=.returned (.tuple #[x,.bool true])∧uF W x sg n d):=yA (by
  rintro W rfl
  exact ⟨(hB4.out.res.put3 (Nat.le_refl _) sg p2 p3 n2 k2 n3 k3).below,_,rfl,_,_,rfl,hB4.out.res.nat3 (Nat.le_refl _) hB4.out.top sg p2 p3 n2 k2 n3 k3,hB4.out.res.nat3 (Nat.le_refl _) hB4.out.bot sg p2 p3 n2 k2 n3 k3,Hs.out⟩)
 clear hb4 ht2
 go_wp2_with fail
 refine bodyPost_ret (v:=.tuple #[.agg #[.bool sg,.slice p2 n2 k2,.slice p3 n3 k3],.bool true]) (by simp [results,Tryz.results41,go_sem,l0,l1,l2]) rfl ?_
 exact yE.out _ rfl
theorem ylo (l:List UInt8) (s:ByteArray):((⟨l.toArray⟩:ByteArray).toList==s.toList)=decide (l=s.data.toList):=by
 rw [Lib.toList_data,Lib.toList_data]
 by_cases h:l=s.data.toList
 ·rw [decide_eq_true h,← h];simp
 ·rw [decide_eq_false h,beq_eq_false_iff_ne];simpa using h
def ym2 (o:Option (Bool × Nat × Nat)) (w:World) (e:Ending) (w':World):Prop :=
 Below w.heap.size w w'∧match o with
 | some (s,n,d)=>∃ x,e=.returned (.tuple #[x,.bool true])∧uF w' x s n d
 | none=>e=.returned (.tuple #[.agg #[.bool false,.slice none 0 0,.slice none 0 0],.bool false])
theorem ygU (s:ByteArray) (w:World) (htab:Tab w):Calls Tryz.prog 41 #[.string s] w (ym2 (GH s.data.toList) w):=by
 have hl:s.data.toList.length=s.size:=by simp
 unfold GH
 by_cases h82:82<s.size
 ·rw [if_pos (by omega)]
  exact (yll s w (by omega)).mono fun _ _ h=>h
 ·rw [if_neg (by omega)]
  have h82':(s.size:Int)≤82:=by omega
  have hs:s.size≤90000:=by omega
  have ykI:∀ W,Calls Tryz.prog 74 #[.string s] W (jZ (jL s.data.toList) W):=fun W=>yfi s W hs
  cases hr:jL s.data.toList with
  | none =>
   rw [hr] at ykI
   exact (ylm s w h82' fun W=>yA (ykI W)).mono fun _ _ h=>h
  | some t =>
   obtain ⟨sg,n,d⟩:=t
   obtain ⟨b1,b2,b3⟩:=yfj hr (by omega)
   rw [hr] at ykI
   have hrd:∀ W,Hid (Calls Tryz.prog 74 #[.string s] W fun e w'=>Below W.heap.size W w'∧∃ x,e=.returned (.tuple #[x,.bool true])∧uF w' x (sg&&!(n==0)) n d):=fun W=>yA (ykI W)
   have htx:∀ W x,uF W x (sg&&!(n==0)) n d→Below w.heap.size w W→Hid (Calls Tryz.prog 60 #[x] W fun e w'=>e=.returned (.string ⟨(yaa (sg&&!(n==0)) n d).toArray⟩)∧Below W.heap.size W w'):=fun W x hx hb =>
    yA (ygT x _ n d 20 W (by omega) b1 b2 b3 hx (htab.below hb))
   have he:=ylo (yaa (sg&&!(n==0)) n d) s
   by_cases hq:yaa (sg&&!(n==0)) n d=s.data.toList
   ·rw [decide_eq_true hq] at he
    simp only [hq,if_true]
    exact (yln s _ _ n d w h82' hrd htx he).mono fun _ _ h=>h
   ·rw [decide_eq_false hq] at he
    simp only [hq,if_false]
    exact (yjL s _ _ n d w h82' hrd htx he).mono fun _ _ h=>h
def yil (l:List UInt8):Bool:=(GH l).isSome
theorem ym3 (s:ByteArray) (w:World) (htab:Tab w):Calls Tryz.prog 20 #[.string s] w fun e w'=>e=.returned (.bool (yil s.data.toList))∧Below w.heap.size w w':=by
 have hr:Hid (Calls Tryz.prog 41 #[.string s] w fun e w'=>Below w.heap.size w w'∧∃ b p n c q m d,e=.returned (.tuple #[.agg #[.bool b,.slice p n c,.slice q m d],.bool (yil s.data.toList)])):=yA (by
  refine (ygU s w htab).mono fun e w' h=>⟨h.1,?_⟩
  have h2:=h.2
  unfold yil
  cases hq:GH s.data.toList with
  | none=>rw [hq] at h2;exact ⟨_,_,_,_,_,_,_,h2⟩
  | some t =>
   rw [hq] at h2
   obtain ⟨x,rfl,u,v,rfl,hu,hv,-⟩:=h2
   obtain ⟨p2,n2,k2,rfl⟩:=hu.slice
   obtain ⟨p3,n3,k3,rfl⟩:=hv.slice
   exact ⟨_,_,_,_,_,_,_,rfl⟩)
 clear htab
 generalize yil s.data.toList=f at hr ⊢
 go_enter Tryz.func20,Tryz.ntmps20
 go_wp2_with fail
 refine hr.out.mono ?_
 rintro e w2 ⟨hb2,b,p,n,c,q,m,d,rfl⟩
 have hbw:=yA (hb2.trans ((zK w2 (.cells #[.bool b,.slice p n c,.slice q m d] 64)).mono hb2.size))
 clear hb2
 go_wp2_with fail
 go_ret
 exact ⟨rfl,hbw.out⟩
theorem yjM (f:FuncId) (w:World):Calls Tryz.prog 43 #[.func (.func f) #[] #[]] w fun e w'=>e=.returned (.func (.func 76) #[] #[.pointer (some ⟨w.heap.size,0,none⟩)])∧w'=w.alloc (.cells #[.func (.func f) #[] #[]] 84):=by
 go_enter Tryz.func43,Tryz.ntmps43
 go_wp2_with fail
 go_ret
 exact ⟨rfl,rfl⟩
def yky (o:Option (Bool × Nat × Nat)) (w:World) (e:Ending) (w':World):Prop :=
 Below w.heap.size w w'∧∃ b p n c q m d,e=.returned (.tuple #[.agg #[.bool b,.slice p n c,.slice q m d],.bool o.isSome])∧∀ s x y,o=some (s,x,y)→uF w' (.agg #[.bool b,.slice p n c,.slice q m d]) s x y
theorem yhu (s:ByteArray) (w:World) (htab:Tab w):Calls Tryz.prog 41 #[.string s] w (yky (GH s.data.toList) w):=by
 refine (ygU s w htab).mono fun e w' h=>⟨h.1,?_⟩
 have h2:=h.2
 cases hq:GH s.data.toList with
 | none=>rw [hq] at h2;exact ⟨_,_,_,_,_,_,_,h2,fun _ _ _ h=>by cases h⟩
 | some t =>
  rw [hq] at h2
  obtain ⟨x,rfl,u,v,rfl,hu,hv,hs⟩:=h2
  obtain ⟨p2,n2,k2,rfl⟩:=hu.slice
  obtain ⟨p3,n3,k3,rfl⟩:=hv.slice
  refine ⟨_,_,_,_,_,_,_,rfl,?_⟩
  rintro _ _ _ h
  cases h
  exact ⟨_,_,rfl,hu,hv,hs⟩
theorem yhR (x y:ByteArray) (g:Addr) (w:World) (hx:Hid (Calls Tryz.prog 41 #[.string x] w (yky none w))):Calls Tryz.prog 76 #[.string x,.string y,.pointer (some g)] w fun e w'=>e=.returned (.string ⟨#[]⟩)∧Below w.heap.size w w':=by
 go_enter Tryz.func76,Tryz.ntmps76
 go_wp2_with fail
 refine hx.out.mono ?_
 rintro e w2 ⟨hb2,b,p,n,c,q,m,d,rfl,-⟩
 have hbw:=yA (hb2.trans ((zK w2 (.cells #[.bool b,.slice p n c,.slice q m d] 64)).mono hb2.size))
 clear hb2
 go_wp2_with fail
 go_ret
 exact ⟨rfl,hbw.out⟩
theorem yhS (x y:ByteArray) (g:Addr) (t:Bool × Nat × Nat) (w:World) (hx:Hid (Calls Tryz.prog 41 #[.string x] w (yky (some t) w))) (hy:∀ W,Below w.heap.size w W→Hid (Calls Tryz.prog 41 #[.string y] W (yky none W))):Calls Tryz.prog 76 #[.string x,.string y,.pointer (some g)] w fun e w'=>e=.returned (.string ⟨#[]⟩)∧Below w.heap.size w w':=by
 go_enter Tryz.func76,Tryz.ntmps76
 go_wp2_with fail
 refine hx.out.mono ?_
 rintro e w2 ⟨hb2,b,p,n,c,q,m,d,rfl,-⟩
 have hbw:=yA (hb2.trans ((zK w2 (.cells #[.bool b,.slice p n c,.slice q m d] 64)).mono hb2.size))
 have hy2:=hy _ hbw.out
 clear hb2 hy
 go_wp2_with fail
 refine hy2.out.mono ?_
 rintro e w3 ⟨hb3,b',p',n',c',q',m',d',rfl,-⟩
 have yf2:=yA (hbw.out.trans (hb3.mono hbw.out.size))
 have ykJ:=yA (yf2.out.trans ((zK w3 (.cells #[.bool b',.slice p' n' c',.slice q' m' d'] 64)).mono yf2.out.size))
 clear hb3
 go_wp2_with fail
 go_ret
 exact ⟨rfl,ykJ.out⟩
end
section
open Go.Lib Big
theorem ycD {l:List UInt8} {n d:Nat} (h:vY l=some (n,d)):0<d:=by
 unfold vY at h
 split at h
 ·split at h
  ·simp only [Option.some.injEq,Prod.mk.injEq] at h
   obtain ⟨-,rfl⟩:=h
   exact Nat.pow_pos (by omega)
  ·cases h
 ·split at h
  ·split at h
   ·rename_i hd
    rw [Bool.and_eq_true,Bool.and_eq_true] at hd
    simp only [Option.some.injEq,Prod.mk.injEq] at h
    obtain ⟨-,rfl⟩:=h
    have:=hd.2
    simp at this;omega
   ·cases h
  ·split at h
   ·simp only [Option.some.injEq,Prod.mk.injEq] at h
    obtain ⟨-,rfl⟩:=h
    omega
   ·cases h
theorem yds {s:Bool} {a b:Nat} (hb:0<b) (hs:s=true→0<a):decide ((zD s a b).num<0)=s∧(zD s a b).num.natAbs=a/Nat.gcd a b∧(zD s a b).den=b/Nat.gcd a b:=by
 have hg:0<Nat.gcd a b:=Nat.gcd_pos_of_pos_right _ hb
 have e:zD s a b=mkRat (if s then -(a:Int) else a) b:=by
  rw [Rat.mkRat_eq_div]
  unfold zD
  cases s<;>simp<;>rfl
 have hn:(mkRat (if s then -(a:Int) else a) b).num=(if s then -(a:Int) else a)/(Nat.gcd a b:Nat):=by
  rw [Rat.num_mkRat,Nat.gcd_comm]
  cases s<;>simp [Nat.ne_of_gt hb]
 have hd:(mkRat (if s then -(a:Int) else a) b).den=b/Nat.gcd a b:=by
  rw [Rat.den_mkRat,Nat.gcd_comm]
  cases s<;>simp [Nat.ne_of_gt hb]
 rw [e,hn,hd]
 refine ⟨?_,?_,rfl⟩
 ·cases s
  ·simp only [Bool.false_eq_true,if_false]
   rw [decide_eq_false]
   have:(0:Int)≤(a:Int)/(Nat.gcd a b:Nat):=Int.ediv_nonneg (by omega) (by omega)
   omega
  ·simp only [if_true]
   rw [decide_eq_true]
   exact Int.ediv_neg_of_neg_of_pos (by have:=hs rfl;omega) (by omega)
 ·cases s
  ·simp only [Bool.false_eq_true,if_false]
   norm_cast
  ·simp only [if_true]
   rw [Int.neg_ediv_of_dvd (by exact_mod_cast Nat.gcd_dvd_left a b),Int.natAbs_neg]
   norm_cast
def uB (q:Rat):List UInt8:=yaa (decide (q.num<0)) q.num.natAbs q.den
theorem yeo {s:Bool} {a b:Nat} (hb:0<b) (hs:s=true→0<a):yaa s a b=uB (zD s a b):=by
 obtain ⟨h1,h2,h3⟩:=yds hb hs
 unfold uB
 rw [h1,h2,h3]
 have hg:0<Nat.gcd a b:=Nat.gcd_pos_of_pos_right _ hb
 have hc:Nat.gcd (a/Nat.gcd a b) (b/Nat.gcd a b)=1:=Nat.gcd_div_gcd_div_gcd_of_pos_right hb
 unfold yaa ycx
 rw [hc,Nat.div_one,Nat.div_one]
theorem yal (q:Rat):zD (decide (q.num<0)) q.num.natAbs q.den=q:=by
 have h:(if decide (q.num<0)=true then -((q.num.natAbs:Nat):Rat) else ((q.num.natAbs:Nat):Rat))=(q.num:Rat):=by
  by_cases h:q.num<0
  ·simp only [h,decide_true,if_true]
   have:((q.num.natAbs:Nat):Int)=- q.num:=by omega
   have h2:(((q.num.natAbs:Nat):Int):Rat)=((- q.num:Int):Rat):=by rw [this]
   rw [Rat.intCast_natCast,Rat.intCast_neg] at h2
   rw [h2,Rat.neg_neg]
  ·simp only [h,decide_false,Bool.false_eq_true,if_false]
   have:((q.num.natAbs:Nat):Int)=q.num:=by omega
   have h2:(((q.num.natAbs:Nat):Int):Rat)=((q.num:Int):Rat):=by rw [this]
   rw [Rat.intCast_natCast] at h2
   exact h2
 unfold zD
 rw [h]
 have h2:q=mkRat q.num q.den:=(Rat.mkRat_self q).symm
 rw [Rat.mkRat_eq_div] at h2
 exact h2.symm
def num (l:List UInt8):Option Rat:=(GH l).map fun t=>zD t.1 t.2.1 t.2.2
theorem ylp {l:List UInt8} {s:Bool} {n d:Nat} (h:GH l=some (s,n,d)):0<d∧(s=true→0<n)∧yaa s n d=l:=by
 unfold GH at h
 split at h
 ·cases h
 ·split at h
  ·rename_i s0 n0 d0 hr
   split at h
   ·rename_i ht
    cases h
    refine ⟨?_,by intro h;simp at h;omega,ht⟩
    unfold jL at hr
    rw [Option.map_eq_some_iff] at hr
    obtain ⟨⟨a,b⟩,h1,h2⟩:=hr
    cases h2
    exact ycD h1
   ·cases h
  ·cases h
theorem yeG {l:List UInt8} {q:Rat} (h:num l=some q):uB q=l:=by
 unfold num at h
 rw [Option.map_eq_some_iff] at h
 obtain ⟨⟨s,n,d⟩,h1,rfl⟩:=h
 obtain ⟨h2,h3,h4⟩:=ylp h1
 rw [← yeo h2 h3];exact h4
theorem yqZ {l m:List UInt8} {q:Rat} (h:num l=some q) (h2:num m=some q):l=m:=by
 rw [← yeG h,yeG h2]
theorem ymg {u:Nat} (h:¬ u<10):decDigits u=decDigits (u/10)++[UInt8.ofNat (48+u%10)]:=by rw [decDigits,dif_neg h]
theorem ygV {k:Nat} (h:k<10):yG (UInt8.ofNat (48+k))=true∧(UInt8.ofNat (48+k)).toNat-48=k:=by
 have:(UInt8.ofNat (48+k)).toNat=48+k:=by
  rw [UInt8.toNat_ofNat'];omega
 unfold yG
 rw [this]
 simp;omega
theorem yap (u:Nat):(decDigits u).all yG=true∧yX (decDigits u)=u:=by
 induction u using Nat.strongRecOn with
 | _ u ih =>
  by_cases h:u<10
  ·rw [decDigits_one h]
   obtain ⟨h1,h2⟩:=ygV h
   refine ⟨by rw [List.all_cons,h1];rfl,?_⟩
   show 0*10+((UInt8.ofNat (48+u)).toNat-48)=u
   rw [h2];omega
  ·rw [ymg h]
   obtain ⟨h1,h2⟩:=ygV (k:=u%10) (by omega)
   obtain ⟨h3,h4⟩:=ih (u/10) (by omega)
   refine ⟨by rw [List.all_append,h3,List.all_cons,h1];rfl,?_⟩
   rw [uS,h4]
   show u/10*10^1+(0*10+((UInt8.ofNat (48+u%10)).toNat-48))=u
   rw [h2];omega
theorem ykl (u:Nat):decDigits u≠[]:=by
 intro h
 have h1:=decDigits_length u
 rw [h] at h1
 have:=nDigits_pos u
 simp at h1;omega
theorem ydg (u:Nat):yR (decDigits u)=true:=by
 unfold yR
 rw [(yap u).1]
 simp [ykl u]
theorem yaJ {l:List UInt8} {c:UInt8} (h:l.all yG=true) (hc:yG c=false):c ∉ l:=by
 intro hm
 rw [List.all_eq_true] at h
 rw [h c hm] at hc;cases hc
theorem yfJ {l:List UInt8} {c:UInt8} (h:c ∉ l):Lib.index l [c]=-1:=by
 apply Lib.index_none
 intro j _
 unfold Lib.occAt
 cases hd:l.drop j with
 | nil=>rfl
 | cons b t =>
  have hb:b ∈ l:=List.mem_of_mem_drop (by rw [hd];simp)
  have:(c==b)=false:=by rw [beq_eq_false_iff_ne];rintro rfl;exact h hb
  simp [List.isPrefixOf,this]
theorem ybD {l:List UInt8} {c:UInt8} (h:c ∉ l):Lib.cut l [c]=(l,[],false):=by
 unfold Lib.cut
 rw [yfJ h,if_neg (by decide)]
theorem yhd {a b:List UInt8} {c:UInt8} (h:c ∉ a):Lib.cut (a++c::b) [c]=(a,b,true):=by
 have hi:Lib.index (a++c::b) [c]=a.length:=by
  apply Lib.index_first
  ·simp
  ·unfold Lib.occAt;rw [List.drop_left];simp [List.isPrefixOf]
  ·intro j hj
   unfold Lib.occAt
   rw [List.drop_append_of_le_length (by omega)]
   cases hd:a.drop j with
   | nil=>have:=congrArg List.length hd;simp at this;omega
   | cons x t =>
    have hb:x ∈ a:=List.mem_of_mem_drop (by rw [hd];simp)
    have:(c==x)=false:=by rw [beq_eq_false_iff_ne];rintro rfl;exact h hb
    simp [List.isPrefixOf,this]
 unfold Lib.cut
 rw [hi,if_pos (by omega)]
 simp
def wrote (s:Bool) (n d:Nat):List UInt8:=(if s then [45] else [])++decDigits n++(if d=1 then [] else 47::decDigits d)
theorem yi8 (u:Nat) (x:List UInt8):Lib.hasPrefix (decDigits u++x) [45]=false:=by
 cases h:decDigits u with
 | nil=>exact absurd h (ykl u)
 | cons b t =>
  have hb:yG b=true:=by
   have:=(yap u).1
   rw [h,List.all_cons,Bool.and_eq_true] at this
   exact this.1
  have:((45:UInt8)==b)=false:=by rw [beq_eq_false_iff_ne];rintro rfl;revert hb;decide
  simp [Lib.hasPrefix,List.isPrefixOf,this]
theorem ydd {n d:Nat} (hd:0<d):vY (decDigits n++(if d=1 then [] else 47::decDigits d))=some (n,d):=by
 have k1:yG 46=false:=by decide
 have k2:yG 47=false:=by decide
 have a1:=yaJ (yap n).1 k1
 have a2:=yaJ (yap n).1 k2
 have b1:=yaJ (yap d).1 k1
 unfold vY
 by_cases h:d=1
 ·rw [if_pos h,List.append_nil,ybD a1,ybD a2]
  simp only [Bool.false_eq_true,if_false]
  rw [if_pos (ydg n),(yap n).2,h]
 ·rw [if_neg h,ybD (by simp [a1,b1]),yhd a2]
  simp only [Bool.false_eq_true,if_false,if_true]
  rw [ydg n,ydg d,(yap n).2,(yap d).2]
  have:(d==0)=false:=by rw [beq_eq_false_iff_ne];omega
  simp [this]
theorem yjN {s:Bool} {n d:Nat} (hd:0<d):jL (wrote s n d)=some (s,n,d):=by
 unfold jL wrote
 cases s
 ·simp only [Bool.false_eq_true,if_false,List.nil_append]
  rw [yi8]
  unfold Lib.trimPrefix
  rw [yi8]
  simp only [Bool.false_eq_true,if_false]
  rw [ydd hd];rfl
 ·simp only [if_true]
  have h:Lib.hasPrefix ([45]++decDigits n++(if d=1 then [] else 47::decDigits d)) [45]=true:=by simp [Lib.hasPrefix,List.isPrefixOf]
  unfold Lib.trimPrefix
  rw [h]
  simp only [if_true]
  have:([45]++decDigits n++(if d=1 then [] else 47::decDigits d)).drop [(45:UInt8)].length=decDigits n++(if d=1 then [] else 47::decDigits d):=by simp
  rw [this,ydd hd];rfl
def yim (q:Rat):Prop:=nDigits q.num.natAbs≤40∧nDigits q.den≤40
theorem ycf (q:Rat):uB q=if nDigits q.num.natAbs≤40∧nDigits q.den≤40 then wrote (decide (q.num<0)) q.num.natAbs q.den else []:=by
 unfold uB yaa ycx
 have hc:Nat.gcd q.num.natAbs q.den=1:=q.reduced
 rw [hc,Nat.div_one,Nat.div_one]
 split<;>rfl
theorem ym4 (s:Bool) (n d:Nat):(wrote s n d).length≤2+nDigits n+nDigits d:=by
 unfold wrote
 rw [List.length_append,List.length_append,decDigits_length]
 split<;>split<;>simp [decDigits_length]<;>omega
theorem yi9 (s:Bool) (n d:Nat):wrote s n d≠[]:=by
 unfold wrote
 simp [ykl]
theorem yoF {q:Rat}:uB q≠[]↔yim q:=by
 rw [ycf]
 unfold yim
 split
 ·simp [yi9, *]
 ·simp [*]
theorem ybT {q:Rat} (h:uB q≠[]):num (uB q)=some q:=by
 have hs:=yoF.1 h
 have e:=ycf q
 unfold yim at hs
 rw [if_pos hs] at e
 have hself:=yal q
 have hr:GH (uB q)=some (decide (q.num<0),q.num.natAbs,q.den):=by
  unfold GH
  rw [e]
  have hl:=ym4 (decide (q.num<0)) q.num.natAbs q.den
  rw [if_neg (by omega),yjN q.den_pos]
  have hsg:(decide (q.num<0)&&!(q.num.natAbs==0))=decide (q.num<0):=by
   by_cases h:q.num<0
   ·have:(q.num.natAbs==0)=false:=by rw [beq_eq_false_iff_ne];omega
    simp [h,this]
   ·simp [h]
  simp only [hsg]
  rw [if_pos]
  exact e
 unfold num
 rw [hr,Option.map_some]
 simp only [hself]
theorem yq0:num []=none:=by decide
theorem ym5 {l:List UInt8} {q:Rat} (h:num l=some q):yim q:=by
 rw [← yoF,yeG h]
 rintro rfl
 rw [yq0] at h;cases h
theorem ym6 (l:List UInt8):(GH l).isSome=(num l).isSome:=by
 unfold num;cases GH l<;>rfl
def opT (f:Rat→Rat→Rat) (x y:List UInt8):List UInt8 :=
 match num x,num y with
 | some a,some b=>uB (f a b)
 | _,_=>[]
theorem yja {f:Rat→Rat→Rat} {x y:List UInt8} {a b:Rat} (hx:num x=some a) (hy:num y=some b):opT f x y=uB (f a b):=by
 unfold opT;rw [hx,hy]
theorem ym7 {f:Rat→Rat→Rat} {x y:List UInt8} (hx:num x=none):opT f x y=[]:=by unfold opT;rw [hx]
theorem ym8 {f:Rat→Rat→Rat} {x y:List UInt8} (hy:num y=none):opT f x y=[]:=by unfold opT;rw [hy];cases num x<;>rfl
theorem yfk:num [48]=some 0:=by
 have h:uB 0=[48]:=by
  rw [ycf]
  have:nDigits (0:Rat).num.natAbs=1:=nDigits_small (by decide)
  have h2:nDigits (0:Rat).den=1:=nDigits_small (by decide)
  rw [if_pos (by omega)]
  unfold wrote
  rw [show decDigits (0:Rat).num.natAbs=[48] from decDigits_one (by decide)]
  rfl
 have:=ybT (q:=0) (by rw [h];decide)
 rwa [h] at this
theorem yb6 {y:List UInt8}:num y=some 0↔y=[48] :=
 ⟨fun h=>yqZ h yfk,fun h=>h ▸ yfk⟩
def ydZ (q:Rat):Int:=if q<0 then -1 else if q=0 then 0 else 1
theorem ylq (q:Rat):(q<0∧ydZ q=-1)∨(q=0∧ydZ q=0)∨(0<q∧ydZ q=1):=by
 unfold ydZ
 by_cases h:q<0
 ·exact .inl ⟨h,by rw [if_pos h]⟩
 ·by_cases h2:q=0
  ·exact .inr (.inl ⟨h2,by rw [if_neg h,if_pos h2]⟩)
  ·exact .inr (.inr ⟨by grind,by rw [if_neg h,if_neg h2]⟩)
theorem ygW {d:Nat} (h2:2≤d) (h9:d<10):uB ((1:Rat)/(d:Rat))=[49,47,UInt8.ofNat (48+d)]:=by
 have e:(1:Rat)/(d:Rat)=mkRat 1 d:=by rw [Rat.mkRat_eq_div];rfl
 have hn:((1:Rat)/(d:Rat)).num=1:=by rw [e,Rat.num_mkRat,if_neg (by omega)];simp
 have hd:((1:Rat)/(d:Rat)).den=d:=by rw [e,Rat.den_mkRat,if_neg (by omega)];simp
 rw [ycf,hn,hd]
 have h3:nDigits (1:Int).natAbs=1:=nDigits_small (by decide)
 have h4:nDigits d=1:=nDigits_small h9
 rw [if_pos (by omega)]
 unfold wrote
 rw [show decDigits (1:Int).natAbs=[49] from decDigits_one (by decide),decDigits_one h9]
 have:¬ d=1:=by omega
 rw [if_neg this];rfl
theorem ygX {d:Nat} (h2:2≤d) (h9:d<10):num [49,47,UInt8.ofNat (48+d)]=some ((1:Rat)/(d:Rat)):=by
 have h:=ygW h2 h9
 rw [← h]
 exact ybT (by rw [h];simp)
theorem ym9:opT (·+·) [49,47,51] [49,47,54]=[49,47,50]:=by
 have h3:num [49,47,51]=some ((1:Rat)/((3:Nat):Rat)):=ygX (d:=3) (by omega) (by omega)
 have h6:num [49,47,54]=some ((1:Rat)/((6:Nat):Rat)):=ygX (d:=6) (by omega) (by omega)
 have h2:=ygW (d:=2) (by omega) (by omega)
 rw [yja h3 h6]
 have e:(1:Rat)/((3:Nat):Rat)+(1:Rat)/((6:Nat):Rat)=(1:Rat)/((2:Nat):Rat):=by
  simp;grind
 rw [e];exact h2
end
end Go.Proofs.YtfjnipkpfbkegaaGreatDoor
