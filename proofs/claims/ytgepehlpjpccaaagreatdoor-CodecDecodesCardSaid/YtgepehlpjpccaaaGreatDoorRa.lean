/- Contracts. -/
import Derived.Test.YtgepehlpjpccaaaGreatDoorTA
import Derived.Test.YtgepehlpjpccaaaGreatDoorShelfB
import Derived.Test.YtgepehlpjpccaaaGreatDoorCE
set_option maxHeartbeats 3200000
set_option maxRecDepth 100000
namespace Go.Proofs.YtgepehlpjpccaaaGreatDoor
open Go.RowKit Big
open Go.Lib
structure Env (w:World):Prop where
 tab:Tab w
 syn:∃ ev,w.cell? ⟨0,0,none⟩=some ev∧(ev=.nilIface∨∃ te pe,ev=.iface te pe)
 rng:∃ ev,w.cell? ⟨1,0,none⟩=some ev∧(ev=.nilIface∨∃ te pe,ev=.iface te pe)
theorem Env.below {w w':World} (h:Env w) (hb:Be w w'):Env w':=by
 obtain ⟨e1,h1,k1⟩:=h.syn
 obtain ⟨e2,h2,k2⟩:=h.rng
 refine ⟨h.tab.below hb,⟨e1,?_,k1⟩,⟨e2,?_,k2⟩⟩
 ·have hG:0<w.heap.size:=Lib.lt_of_cell h1
  exact (hb.cell (show (⟨0,0,none⟩:Addr).block<w.heap.size from hG)).trans h1
 ·have hG:1<w.heap.size:=Lib.lt_of_cell h2
  exact (hb.cell (show (⟨1,0,none⟩:Addr).block<w.heap.size from hG)).trans h2
theorem yh3 {l:Lb} {q:Rat} (h:num l=some q):l.length≤82:=by
 unfold num yam at h
 split at h
 ·cases h
 ·omega
theorem yqj (l:Lb):ygF l=(num l).isSome:=by
 unfold num ygF
 cases yam l<;>rfl
def yeb (o:Option Int) (w:World) (e:Ending) (w':World):Prop:=Be w w'∧match o with
 | some v=>e=.returned (.tuple #[.int .i64 v,.nilIface])
 | none=>∃ z T N,e=.returned (.tuple #[.int .i64 z,.iface T (.pointer (some ⟨N,0,none⟩))])
theorem ycO {w w':World} (h:w'=w∨∃ t,w'=Lib.bytesWorld w 5 t):Be w w':=by
 rcases h with rfl|⟨t,rfl⟩
 ·exact Below.refl _ _
 ·exact Lib.bytesWorld_below _ _ _
theorem yru (B:Nat) (hB:B=8∨B=16∨B=32∨B=64) (x:ByteArray) (q:Rat) (hx:num x.data.toList=some q) (w:World) (h:Env w):Calls Tryz.prog 127 #[.string x,.int .i64 10,.int .i64 (B:Int)] w (yeb (uX B x.data.toList) w):=by
 have hl:=yh3 hx
 have hs:x.size≤82:=by rw [← ByteArray.size_data];simpa using hl
 obtain ⟨e1,h1,k1⟩:=h.syn
 obtain ⟨e2,h2,k2⟩:=h.rng
 rcases hB with rfl|rfl|rfl|rfl
 ·have hp:=yft (B:=8) (by decide) (by decide) hx
  unfold yeb
  cases hi:uX 8 x.data.toList with
  | some v =>
   rw [hi] at hp
   exact (Tryz.strconv_ParseInt_10_at8_ok x (by omega) v hp w).mono fun e w' h=>⟨ycO h.2,h.1⟩
  | none =>
   rw [hi] at hp
   rcases hp with hp|hp
   ·exact (Tryz.strconv_ParseInt_10_at8_syntax x (by omega) hp e1 w h1 k1).mono fun e w' ⟨N,h,_,_,hb⟩=>⟨hb,_,_,N,h⟩
   ·exact (Tryz.strconv_ParseInt_10_at8_range x (by omega) hp e2 w h2 k2).mono fun e w' ⟨N,h,_,_,hb⟩=>⟨hb,_,_,N,h⟩
 ·have hp:=yft (B:=16) (by decide) (by decide) hx
  unfold yeb
  cases hi:uX 16 x.data.toList with
  | some v =>
   rw [hi] at hp
   exact (Tryz.strconv_ParseInt_10_at16_ok x (by omega) v hp w).mono fun e w' h=>⟨ycO h.2,h.1⟩
  | none =>
   rw [hi] at hp
   rcases hp with hp|hp
   ·exact (Tryz.strconv_ParseInt_10_at16_syntax x (by omega) hp e1 w h1 k1).mono fun e w' ⟨N,h,_,_,hb⟩=>⟨hb,_,_,N,h⟩
   ·exact (Tryz.strconv_ParseInt_10_at16_range x (by omega) hp e2 w h2 k2).mono fun e w' ⟨N,h,_,_,hb⟩=>⟨hb,_,_,N,h⟩
 ·have hp:=yft (B:=32) (by decide) (by decide) hx
  unfold yeb
  cases hi:uX 32 x.data.toList with
  | some v =>
   rw [hi] at hp
   exact (Tryz.strconv_ParseInt_10_at32_ok x (by omega) v hp w).mono fun e w' h=>⟨ycO h.2,h.1⟩
  | none =>
   rw [hi] at hp
   rcases hp with hp|hp
   ·exact (Tryz.strconv_ParseInt_10_at32_syntax x (by omega) hp e1 w h1 k1).mono fun e w' ⟨N,h,_,_,hb⟩=>⟨hb,_,_,N,h⟩
   ·exact (Tryz.strconv_ParseInt_10_at32_range x (by omega) hp e2 w h2 k2).mono fun e w' ⟨N,h,_,_,hb⟩=>⟨hb,_,_,N,h⟩
 ·have hp:=yft (B:=64) (by decide) (by decide) hx
  unfold yeb
  cases hi:uX 64 x.data.toList with
  | some v =>
   rw [hi] at hp
   exact (Tryz.strconv_ParseInt_10_at64_ok x (by omega) v hp w).mono fun e w' h=>⟨ycO h.2,h.1⟩
  | none =>
   rw [hi] at hp
   rcases hp with hp|hp
   ·exact (Tryz.strconv_ParseInt_10_at64_syntax x (by omega) hp e1 w h1 k1).mono fun e w' ⟨N,h,_,_,hb⟩=>⟨hb,_,_,N,h⟩
   ·exact (Tryz.strconv_ParseInt_10_at64_range x (by omega) hp e2 w h2 k2).mono fun e w' ⟨N,h,_,_,hb⟩=>⟨hb,_,_,N,h⟩
def ybt (o:Option Int) (w:World) (e:Ending) (w':World):Prop:=e=.returned (.tuple #[.int .i64 (o.getD 0),.bool o.isSome])∧Be w w'
theorem ymk (x:ByteArray) (B:Int) (w:World) (hv:Hid (Calls Tryz.prog 92 #[.string x] w (Rp (.bool false) w))):Calls Tryz.prog 93 #[.string x,.int .i64 B] w (ybt none w):=by
 unfold ybt
 go_in
 go_wp2_with fail
 refine hv.out.mono ?_
 rintro e w1 ⟨rfl,hb1⟩
 have HB:=yA hb1
 clear hb1
 go_wp2
 go_ret2
 exact ⟨rfl,HB.out⟩
theorem ykD (x:ByteArray) (B:Int) (w:World) (hv:Hid (Calls Tryz.prog 92 #[.string x] w (Rp (.bool true) w)))
  (hp:Hid (∀ W,Be w W→Calls Tryz.prog 127 #[.string x,.int .i64 10,.int .i64 B] W fun e w'=>Be W w'∧∃ z T N,e=.returned (.tuple #[.int .i64 z,.iface T (.pointer (some ⟨N,0,none⟩))]))):Calls Tryz.prog 93 #[.string x,.int .i64 B] w (ybt none w):=by
 unfold ybt
 go_in
 go_wp2_with fail
 refine hv.out.mono ?_
 rintro e w1 ⟨rfl,hb1⟩
 have HB:=yA hb1
 clear hb1
 go_wp2_with fail
 refine (hp.out _ HB.out).mono ?_
 rintro e w2 ⟨hb2,z,T,n,rfl⟩
 have vK:=yA (tr HB.out hb2)
 clear hb2
 go_wp2
 go_ret2
 exact ⟨rfl,vK.out⟩
theorem ykE (x:ByteArray) (B v:Int) (w:World) (hv:Hid (Calls Tryz.prog 92 #[.string x] w (Rp (.bool true) w)))
  (hp:Hid (∀ W,Be w W→Calls Tryz.prog 127 #[.string x,.int .i64 10,.int .i64 B] W fun e w'=>Be W w'∧e=.returned (.tuple #[.int .i64 v,.nilIface]))):Calls Tryz.prog 93 #[.string x,.int .i64 B] w (ybt (some v) w):=by
 unfold ybt
 go_in
 go_wp2_with fail
 refine hv.out.mono ?_
 rintro e w1 ⟨rfl,hb1⟩
 have HB:=yA hb1
 clear hb1
 go_wp2_with fail
 refine (hp.out _ HB.out).mono ?_
 rintro e w2 ⟨hb2,rfl⟩
 have vK:=yA (tr HB.out hb2)
 clear hb2
 go_wp2
 go_ret2
 exact ⟨rfl,vK.out⟩
theorem ykF (B:Nat) (hB:B=8∨B=16∨B=32∨B=64) (x:ByteArray) (w:World) (h:Env w):Calls Tryz.prog 93 #[.string x,.int .i64 (B:Int)] w (ybt (uX B x.data.toList) w):=by
 have hv:=yhv x w h.tab
 rw [yqj] at hv
 cases hx:num x.data.toList with
 | none =>
  rw [hx] at hv
  have e:uX B x.data.toList=none:=by unfold uX;rw [hx]
  rw [e]
  exact ymk x B w (yA hv)
 | some q =>
  rw [hx] at hv
  have hp:=fun W (hW:Be w W)=>yru B hB x q hx W (h.below hW)
  unfold yeb at hp
  cases hi:uX B x.data.toList with
  | none=>rw [hi] at hp;exact ykD x B w (yA hv) (yA hp)
  | some v=>rw [hi] at hp;exact ykE x B v w (yA hv) (yA hp)
end Go.Proofs.YtgepehlpjpccaaaGreatDoor
namespace Go.Proofs.YtgepehlpjpccaaaGreatDoor
open Go.RowKit Big
open Go.Lib
def zZ (kind:Int) (l:Lb):Bool :=
 if kind=1 then l.isEmpty || (uX 8 l).isSome else if kind=2 then l.isEmpty || (uX 16 l).isSome else if kind=3 then l.isEmpty || (uX 32 l).isSome
 else if kind=4 then l.isEmpty || (uX 64 l).isSome else if kind=5 then l.isEmpty || (num l).isSome else false
theorem yml (z:Int) (f:Bool) (w:World) (h76:Hid (∀ W,Be w W→Calls Tryz.prog 93 #[.string ⟨#[]⟩,.int .i64 8] W (Rp (.tuple #[.int .i64 z,.bool f]) W))):Calls Tryz.prog 46 #[.int .i64 1,.string ⟨#[]⟩] w (Rp (.bool true) w):=by
 go_in
 go_wp2_with fail
 refine (h76.out _ bR).mono ?_
 rintro e w1 ⟨rfl,hb⟩
 have B1:=yA (hb)
 clear hb
 go_wp2
 go_ret
 exact ⟨rfl,B1.out⟩
theorem ykG (l:Lb) (_hl:¬ l=[]) (hl2:l.isEmpty=false) (z:Int) (f:Bool) (w:World) (h76:Hid (∀ W,Be w W→Calls Tryz.prog 93 #[.string ⟨l.toArray⟩,.int .i64 8] W (Rp (.tuple #[.int .i64 z,.bool f]) W))):Calls Tryz.prog 46 #[.int .i64 1,.string ⟨l.toArray⟩] w (Rp (.bool f) w):=by
 go_in
 go_wp2_with fail
 refine (h76.out _ bR).mono ?_
 rintro e w1 ⟨rfl,hb⟩
 have B1:=yA (hb)
 clear hb
 go_wp2
 go_ret
 exact ⟨rfl,B1.out⟩
theorem ymm (z:Int) (f:Bool) (w:World) (h76:Hid (∀ W,Be w W→Calls Tryz.prog 93 #[.string ⟨#[]⟩,.int .i64 16] W (Rp (.tuple #[.int .i64 z,.bool f]) W))):Calls Tryz.prog 46 #[.int .i64 2,.string ⟨#[]⟩] w (Rp (.bool true) w):=by
 go_in
 go_wp2_with fail
 refine (h76.out _ bR).mono ?_
 rintro e w1 ⟨rfl,hb⟩
 have B1:=yA (hb)
 clear hb
 go_wp2
 go_ret
 exact ⟨rfl,B1.out⟩
theorem ykH (l:Lb) (_hl:¬ l=[]) (hl2:l.isEmpty=false) (z:Int) (f:Bool) (w:World) (h76:Hid (∀ W,Be w W→Calls Tryz.prog 93 #[.string ⟨l.toArray⟩,.int .i64 16] W (Rp (.tuple #[.int .i64 z,.bool f]) W))):Calls Tryz.prog 46 #[.int .i64 2,.string ⟨l.toArray⟩] w (Rp (.bool f) w):=by
 go_in
 go_wp2_with fail
 refine (h76.out _ bR).mono ?_
 rintro e w1 ⟨rfl,hb⟩
 have B1:=yA (hb)
 clear hb
 go_wp2
 go_ret
 exact ⟨rfl,B1.out⟩
theorem ymn (z:Int) (f:Bool) (w:World) (h76:Hid (∀ W,Be w W→Calls Tryz.prog 93 #[.string ⟨#[]⟩,.int .i64 32] W (Rp (.tuple #[.int .i64 z,.bool f]) W))):Calls Tryz.prog 46 #[.int .i64 3,.string ⟨#[]⟩] w (Rp (.bool true) w):=by
 go_in
 go_wp2_with fail
 refine (h76.out _ bR).mono ?_
 rintro e w1 ⟨rfl,hb⟩
 have B1:=yA (hb)
 clear hb
 go_wp2
 go_ret
 exact ⟨rfl,B1.out⟩
theorem ykI (l:Lb) (_hl:¬ l=[]) (hl2:l.isEmpty=false) (z:Int) (f:Bool) (w:World) (h76:Hid (∀ W,Be w W→Calls Tryz.prog 93 #[.string ⟨l.toArray⟩,.int .i64 32] W (Rp (.tuple #[.int .i64 z,.bool f]) W))):Calls Tryz.prog 46 #[.int .i64 3,.string ⟨l.toArray⟩] w (Rp (.bool f) w):=by
 go_in
 go_wp2_with fail
 refine (h76.out _ bR).mono ?_
 rintro e w1 ⟨rfl,hb⟩
 have B1:=yA (hb)
 clear hb
 go_wp2
 go_ret
 exact ⟨rfl,B1.out⟩
theorem ymo (z:Int) (f:Bool) (w:World) (h76:Hid (∀ W,Be w W→Calls Tryz.prog 93 #[.string ⟨#[]⟩,.int .i64 64] W (Rp (.tuple #[.int .i64 z,.bool f]) W))):Calls Tryz.prog 46 #[.int .i64 4,.string ⟨#[]⟩] w (Rp (.bool true) w):=by
 go_in
 go_wp2_with fail
 refine (h76.out _ bR).mono ?_
 rintro e w1 ⟨rfl,hb⟩
 have B1:=yA (hb)
 clear hb
 go_wp2
 go_ret
 exact ⟨rfl,B1.out⟩
theorem ykJ (l:Lb) (_hl:¬ l=[]) (hl2:l.isEmpty=false) (z:Int) (f:Bool) (w:World) (h76:Hid (∀ W,Be w W→Calls Tryz.prog 93 #[.string ⟨l.toArray⟩,.int .i64 64] W (Rp (.tuple #[.int .i64 z,.bool f]) W))):Calls Tryz.prog 46 #[.int .i64 4,.string ⟨l.toArray⟩] w (Rp (.bool f) w):=by
 go_in
 go_wp2_with fail
 refine (h76.out _ bR).mono ?_
 rintro e w1 ⟨rfl,hb⟩
 have B1:=yA (hb)
 clear hb
 go_wp2
 go_ret
 exact ⟨rfl,B1.out⟩
theorem ymp (w:World):Calls Tryz.prog 46 #[.int .i64 5,.string ⟨#[]⟩] w (Rp (.bool true) w):=by
 go_in
 go_wp2
 go_ret
 exact ⟨rfl,Below.refl _ _⟩
theorem ykK (l:Lb) (_hl:¬ l=[]) (hl2:l.isEmpty=false) (f:Bool) (w:World) (h19:Hid (∀ W,Be w W→Calls Tryz.prog 92 #[.string ⟨l.toArray⟩] W (Rp (.bool f) W))):Calls Tryz.prog 46 #[.int .i64 5,.string ⟨l.toArray⟩] w (Rp (.bool f) w):=by
 go_in
 go_wp2_with fail
 refine (h19.out _ bR).mono ?_
 rintro e w1 ⟨rfl,hb⟩
 have B1:=yA (hb)
 clear hb
 go_wp2
 go_ret
 exact ⟨rfl,B1.out⟩
theorem yrv (x:ByteArray) (k:Int) (h1:¬ k=1) (h2:¬ k=2) (h3:¬ k=3) (h4:¬ k=4) (h5:¬ k=5) (w:World):Calls Tryz.prog 46 #[.int .i64 k,.string x] w (Rp (.bool false) w):=by
 go_in
 go_wp2
 go_ret
 exact ⟨rfl,Below.refl _ _⟩
theorem yf3 (k:Int) (l:Lb) (w:World) (h:Env w):Calls Tryz.prog 46 #[.int .i64 k,.string ⟨l.toArray⟩] w (Rp (.bool (zZ k l)) w):=by
 have hi:∀ (B:Nat),B=8∨B=16∨B=32∨B=64→∀ W,Be w W→Calls Tryz.prog 93 #[.string ⟨l.toArray⟩,.int .i64 (B:Int)] W (ybt (uX B l) W):=fun B hB W hW=>ykF B hB ⟨l.toArray⟩ W (h.below hW)
 have hv:∀ W,Be w W→Calls Tryz.prog 92 #[.string ⟨l.toArray⟩] W (Rp (.bool (num l).isSome) W):=fun W hW=>by
  have h:=yhv ⟨l.toArray⟩ W (h.below hW).tab
  rw [yqj] at h
  exact h
 unfold zZ
 by_cases h1:k=1
 ·subst h1
  simp only [if_true,Int.reduceEq,if_false]
  by_cases hl:l=[]
  ·subst hl;exact yml _ _ w (yA (hi 8 (by omega)))
  ·have hl2:l.isEmpty=false:=by simpa using hl
   rw [hl2,Bool.false_or]
   exact ykG l hl hl2 _ _ w (yA (hi 8 (by omega)))
 by_cases h2:k=2
 ·subst h2
  simp only [if_true,Int.reduceEq,if_false]
  by_cases hl:l=[]
  ·subst hl;exact ymm _ _ w (yA (hi 16 (by omega)))
  ·have hl2:l.isEmpty=false:=by simpa using hl
   rw [hl2,Bool.false_or]
   exact ykH l hl hl2 _ _ w (yA (hi 16 (by omega)))
 by_cases h3:k=3
 ·subst h3
  simp only [if_true,Int.reduceEq,if_false]
  by_cases hl:l=[]
  ·subst hl;exact ymn _ _ w (yA (hi 32 (by omega)))
  ·have hl2:l.isEmpty=false:=by simpa using hl
   rw [hl2,Bool.false_or]
   exact ykI l hl hl2 _ _ w (yA (hi 32 (by omega)))
 by_cases h4:k=4
 ·subst h4
  simp only [if_true,Int.reduceEq,if_false]
  by_cases hl:l=[]
  ·subst hl;exact ymo _ _ w (yA (hi 64 (by omega)))
  ·have hl2:l.isEmpty=false:=by simpa using hl
   rw [hl2,Bool.false_or]
   exact ykJ l hl hl2 _ _ w (yA (hi 64 (by omega)))
 by_cases h5:k=5
 ·subst h5
  simp only [if_true,Int.reduceEq,if_false]
  by_cases hl:l=[]
  ·subst hl;exact ymp w
  ·have hl2:l.isEmpty=false:=by simpa using hl
   rw [hl2,Bool.false_or]
   exact ykK l hl hl2 _ w (yA hv)
 simp only [h1,h2,h3,h4,h5,if_false]
 exact yrv _ k h1 h2 h3 h4 h5 w
end Go.Proofs.YtgepehlpjpccaaaGreatDoor
namespace Go.Proofs.YtgepehlpjpccaaaGreatDoor
open Go.RowKit
open Go.Lib
theorem ywd:zZ 2 [49]=true:=by decide +kernel
theorem ywe:zZ 2 []=true:=by decide
theorem ywf:zZ 2 [45,50]=true:=by decide +kernel
theorem ywT:parseIntB 64 [49]=.ok 1:=by decide
theorem ywU:parseIntB 64 [45,50]=.ok (-2):=by decide
theorem yde (w:World):Calls Tryz.prog 13 #[.int .i64 2] w (Qp (.int .i64 2) w):=by
 go_in
 go_wp2
 go_ret
 exact ⟨rfl,rfl⟩
theorem ymq (w:World):Calls Tryz.prog 39 #[.int .i64 2] w (Qp (.bool true) w):=by
 go_in
 go_wp2_with fail
 refine (yde _).mono ?_
 rintro e w' ⟨rfl,rfl⟩
 go_wp2
 go_ret
 exact ⟨rfl,rfl⟩
theorem GB (n:Nat) (hn:(n:Int)≤4096) (w:World):Calls Tryz.prog 59 #[.int .i64 (n:Int)] w (Qp (.bool true) w):=by
 go_in
 go_wp2
 go_ret
 exact ⟨rfl,rfl⟩
theorem uM (n:Nat) (hn:(n:Int)≤4096) (w:World):Calls Tryz.prog 75 #[.int .i64 (n:Int)] w (Qp (.int .i64 (((n:Int)+7)/8)) w):=by
 go_in
 go_wp2
 go_ret
 exact ⟨rfl,rfl⟩
def Ss (w:World) (p:Oa) (xs:List Lb):Prop:=xs.length=0∨∃ b off,p=some ⟨b,off,none⟩∧b<w.heap.size∧∀ j,j<xs.length→w.cell? ⟨b,off+j,none⟩=some (.string ⟨(xs.getD j []).toArray⟩)
theorem Ss.below {w w':World} {p:Oa} {xs:List Lb} (h:Ss w p xs) (hb:Be w w'):Ss w' p xs:=by
 rcases h with h0|⟨b,off,hp,hlt,hc⟩
 ·exact .inl h0
 ·exact .inr ⟨b,off,hp,Nat.lt_of_lt_of_le hlt hb.size,fun j hj=>(hb.cell (p:=⟨b,off+j,none⟩) hlt).trans (hc j hj)⟩
theorem Ss.at {w:World} {p:Oa} {xs:List Lb} (h:Ss w p xs) {k:Nat} (hk:k<xs.length):∃ (b off:Nat) (x:Lb),p=some ⟨b,off,none⟩∧b<w.heap.size∧w.cell? ⟨b,off+k,none⟩=some (.string ⟨x.toArray⟩)∧Hid (xs.getD k []=x):=by
 rcases h with h0|⟨b,off,h1,h2,h3⟩
 ·omega
 ·exact ⟨b,off,_,h1,h2,h3 k hk,rfl⟩
theorem yfj (p:Oa) (c:Nat) (xs:List Lb) (w:World) (hn:xs.length≤4096) (hs:Ss w p xs) (hf:∀ k,k<xs.length→zZ 2 (xs.getD k [])=true) (he:Env w) :
  Calls Tryz.prog 44 #[.int .i64 2,.slice p xs.length c] w (Rp (.int .i64 0) w):=by
 have HS:=h_ hs
 have HF:=h_ hf
 have HV:=h_ he
 clear hs hf he
 obtain ⟨n,HN⟩:=ey (xs.length)
 rw [← HN.out] at hn ⊢
 have hn':(n:Int)≤4096:=by omega
 go_in
 go_wp2_with fail
 refine (ymq _).mono ?_
 rintro e w' ⟨rfl,rfl⟩
 go_wp2_with fail
 refine (GB n hn' _).mono ?_
 rintro e w' ⟨rfl,rfl⟩
 go_wp2
 go_loopw [16] (fun i wr=>∃ k:Nat,k≤n∧i=.int .i64 k∧Hid (Be w wr)) (fun i _=>n-(intOf i).toNat)
 case atStart=>exact ⟨0,Nat.zero_le _,rfl,h_ bR⟩
 case round =>
  obtain ⟨k,hk,rfl,HB⟩:=hrel
  by_cases hlt:k<n
  ·obtain ⟨b1,o1,x,rfl,hb1,hc1,hx⟩:=(HS.out.below HB.out).at (k:=k) (by rw [← HN.out];exact hlt)
   have HC:=h_ (yf3 2 x wr (HV.out.below HB.out))
   have hft:Hid (zZ 2 x=true):=h_ (by rw [← hx.out];exact HF.out k (by rw [← HN.out];exact hlt))
   rw [hft.out] at HC
   go_wp2_with fail
   refine (HC.out).mono ?_
   rintro e w2 ⟨rfl,hb2⟩
   have vK:=th HB hb2
   clear hb2
   go_wp2
   go_roundw
   case rel=>exact ⟨k+1,by omega,by go_num,vK⟩
   case measure=>simp [intOf];omega
  ·obtain rfl:k=n:=by omega
   go_wp2
   go_ret
   exact ⟨rfl,HB.out⟩
end Go.Proofs.YtgepehlpjpccaaaGreatDoor
namespace Go.Proofs.YtgepehlpjpccaaaGreatDoor
open Go.RowKit
open Go.Lib
abbrev Sg:=Int × Int × Lb
def RdG (w:World) (p:Oa) (l:List Sg):Prop:=l.length=0∨∃ b off,p=some ⟨b,off,none⟩∧b<w.heap.size∧∀ j,j<l.length→w.cell? ⟨b,off+j*3,none⟩=some (.int .i64 (l.getD j (0,0,[])).1)∧w.cell? ⟨b,off+j*3+1,none⟩=some (.int .i64 (l.getD j (0,0,[])).2.1)∧w.cell? ⟨b,off+j*3+2,none⟩=some (.string ⟨(l.getD j (0,0,[])).2.2.toArray⟩)
theorem RdG.below {w w':World} {p:Oa} {l:List Sg} (h:RdG w p l) (hb:Be w w'):RdG w' p l:=h.imp id fun ⟨b,off,h1,h2,h3⟩ =>
 ⟨b,off,h1,Nat.lt_of_lt_of_le h2 hb.size,fun j hj=>⟨(hb.cell (p:=⟨b,off+j*3,none⟩) h2).trans (h3 j hj).1,(hb.cell (p:=⟨b,off+j*3+1,none⟩) h2).trans (h3 j hj).2.1,(hb.cell (p:=⟨b,off+j*3+2,none⟩) h2).trans (h3 j hj).2.2⟩⟩
theorem RdG.at {w:World} {p:Oa} {l:List Sg} (h:RdG w p l) {k:Nat} (hk:k<l.length):∃ b off x y z,p=some ⟨b,off,none⟩∧b<w.heap.size∧w.cell? ⟨b,off+k*3,none⟩=some (.int .i64 x)∧w.cell? ⟨b,off+k*3+1,none⟩=some (.int .i64 y)∧w.cell? ⟨b,off+k*3+2,none⟩=some (.string ⟨(z:Lb).toArray⟩)∧Hid (l.getD k (0,0,[])=(x,y,z)):=by
 rcases h with h0|⟨b,off,h1,h2,h3⟩
 ·omega
 ·exact ⟨b,off,_,_,_,h1,h2,(h3 k hk).1,(h3 k hk).2.1,(h3 k hk).2.2,h_ rfl⟩
def ydo (l:List Sg):Bool:=decide (10<l.length) || l.any (fun x=>decide (200<x.2.2.length))
theorem yon (p:Oa) (c n:Nat) (l:List Sg) (w:World) (hx:Hid (l.length=n)) (hs:RdG w p l) :
  Calls Tryz.prog 9 #[.slice p n c] w (Qp (.bool (ydo l)) w):=by
 have HS:=h_ hs
 obtain ⟨v,HV⟩:=ez (ydo l)
 rw [HV.out]
 clear hs
 by_cases h10:10<n
 ·have h1:(10:Int)<(n:Int):=by omega
  obtain rfl:v=true:=by rw [← HV.out];unfold ydo;rw [decide_eq_true (by rw [hx.out];exact h10)];rfl
  go_in
  go_wp2
  go_ret
  exact ⟨rfl,rfl⟩
 have h1:¬ (10:Int)<(n:Int):=by omega
 have hni:(n:Int)≤10:=by omega
 have ygB:Hid (∀ j,j<n→200<(l.getD j (0,0,[])).2.2.length→v=true):=h_ (fun j hj h=>by
  rw [← HV.out];unfold ydo
  rw [Bool.or_eq_true]
  have hj2:j<l.length:=by rw [hx.out];exact hj
  rw [gD hj2] at h
  exact .inr (List.any_eq_true.2 ⟨_,List.getElem_mem hj2,decide_eq_true h⟩))
 have HNO:Hid ((∀ j,j<n→¬ 200<(l.getD j (0,0,[])).2.2.length)→v=false):=h_ (fun h=>by
  rw [← HV.out];unfold ydo
  rw [decide_eq_false (by rw [hx.out];exact h10),Bool.false_or,List.any_eq_false]
  intro x hx2
  obtain ⟨j,hj,rfl⟩:=List.getElem_of_mem hx2
  have:=h j (by rw [← hx.out];exact hj)
  rw [gD hj] at this
  simpa using this)
 go_in
 go_wp2
 go_loopw [3] (fun iv wr=>∃ i:Nat,i≤n∧iv=.int .i64 i∧w=wr∧Hid (∀ j,j<i→¬ 200<(l.getD j (0,0,[])).2.2.length)) (fun iv _=>n-(intOf iv).toNat)
 case atStart=>exact ⟨0,Nat.zero_le _,rfl,rfl,h_ (fun j hj=>by omega)⟩
 case round =>
  obtain ⟨i,hi,rfl,rfl,HA⟩:=hrel
  have ii:(i:Int)≤(n:Int):=by omega
  by_cases hlt:i<n
  ·have ilt:(i:Int)<(n:Int):=by omega
   obtain ⟨b1,o1,x,y,z,e1,-,hc1,hc2,hc3,hx1⟩:=HS.out.at (k:=i) (by rw [hx.out];exact hlt)
   subst e1
   obtain ⟨m,HM⟩:=ez (z.length)
   have hsz:(⟨z.toArray⟩:ByteArray).size=m:=by rw [← ByteArray.size_data];simpa using HM.out
   obtain ⟨X,HX⟩:∃ X:ByteArray,Hid (⟨z.toArray⟩=X):=⟨_,rfl⟩
   rw [HX.out] at hc3 hsz
   by_cases h2:200<m
   ·have h3:(200:Int)<(m:Int):=by omega
    obtain rfl:v=true:=ygB.out i hlt (by rw [hx1.out];show 200<z.length;rw [HM.out];exact h2)
    go_wp2
    go_ret
    exact ⟨rfl,by first|rfl|trivial⟩
   ·have h3:¬ (200:Int)<(m:Int):=by omega
    have HA2:Hid (∀ j,j<i+1→¬ 200<(l.getD j (0,0,[])).2.2.length):=h_ (fun j hj=>by
     by_cases e:j=i
     ·rw [e,hx1.out];show ¬ 200<z.length;rw [HM.out];exact h2
     ·exact HA.out j (by omega))
    go_wp2
    go_roundw
    case rel=>exact ⟨i+1,by omega,by go_num,by first|rfl|trivial,HA2⟩
    case measure=>simp [intOf];omega
  ·obtain rfl:i=n:=by omega
   have ilt:¬ (i:Int)<(i:Int):=by omega
   obtain rfl:v=false:=HNO.out HA.out
   go_wp2
   go_ret
   exact ⟨rfl,by first|rfl|trivial⟩
end Go.Proofs.YtgepehlpjpccaaaGreatDoor
namespace Go.Proofs.YtgepehlpjpccaaaGreatDoor
end Go.Proofs.YtgepehlpjpccaaaGreatDoor
namespace Big
open Go.Proofs.YtgepehlpjpccaaaGreatDoor
theorem yV.of_last {B:Nat} {l:List Nat} (h:yO B l) (k:Nat) (hk:l.length=k+1) (h0:l.getD k 0≠0):yV B l:=by
 refine ⟨h,?_⟩
 rw [List.getLast?_eq_getElem?,hk,Nat.add_sub_cancel]
 rw [List.getD_eq_getElem?_getD] at h0
 intro e;rw [e] at h0;simp at h0
theorem yV.zero_iff {B:Nat} (hB:0<B) {l:List Nat} (h:yV B l):yC B l=0↔l=[]:=by
 constructor
 ·intro h0
  cases l with
  | nil=>rfl
  | cons x t =>
   have:=h.pow_le t.length (by simp)
   have hp:0<B^t.length:=Nat.pow_pos hB
   omega
 ·rintro rfl;rfl
end Big
namespace Go.Proofs.YtgepehlpjpccaaaGreatDoor
open Go.RowKit
end Go.Proofs.YtgepehlpjpccaaaGreatDoor
namespace Go.Proofs.YtgepehlpjpccaaaGreatDoor
open Go.RowKit Big
end Go.Proofs.YtgepehlpjpccaaaGreatDoor
namespace Big
open Go.Proofs.YtgepehlpjpccaaaGreatDoor
def B9:Nat:=1000000000
theorem zE:B9=1000000000:=rfl
theorem zU:0<B9:=by rw [zE];omega
theorem yoo (B j:Nat) (l:List Nat):yC B (List.replicate j 0++l)=B^j*yC B l:=by
 rw [vR,uO];simp
theorem yV.shift {B:Nat} {l:List Nat} (h:yV B l) (hl:l≠[]) (hB:0<B) (j:Nat):yV B (List.replicate j 0++l):=by
 refine ⟨(yO.zeros hB j).append h.1,?_⟩
 rw [List.getLast?_append]
 have h2:=h.2
 cases he:l.getLast? with
 | none=>exact absurd (List.getLast?_eq_none_iff.1 he) hl
 | some x=>rw [he] at h2;simpa using h2
theorem ybk (B:Nat) (l:List Nat) (m:Nat):yC B (l.drop m)=l.getD m 0+B*yC B (l.drop (m+1)):=by
 by_cases h:m<l.length
 ·rw [List.drop_eq_getElem_cons h,ybg,List.getD_eq_getElem?_getD,List.getElem?_eq_getElem h];rfl
 ·rw [List.drop_eq_nil_of_le (by omega),List.drop_eq_nil_of_le (by omega),List.getD_eq_getElem?_getD,List.getElem?_eq_none (by omega)];simp [yC]
theorem ykL {B:Nat} (hB:0<B) {l:List Nat} (hd:yO B l) (m:Nat):yC B l/B^m=yC B (l.drop m):=by
 by_cases h:m≤l.length
 ·have h1:=vB B l m h
  have h2:=vE (l.take m) (hd.take m)
  rw [List.length_take,Nat.min_eq_left h] at h2
  rw [h1,Nat.add_mul_div_left _ _ (Nat.pow_pos hB),Nat.div_eq_of_lt h2,Nat.zero_add]
 ·rw [List.drop_eq_nil_of_le (by omega)]
  have h2:=vE l hd
  have h3:B^l.length≤B^m:=Nat.pow_le_pow_right hB (by omega)
  rw [Nat.div_eq_of_lt (by omega)];rfl
theorem ytx {B:Nat} (hB:0<B) {l:List Nat} (hd:yO B l) (m:Nat) (hl:l.length≤m+2):yC B l/B^m=l.getD (m+1) 0*B+l.getD m 0:=by
 rw [ykL hB hd,ybk,ybk,List.drop_eq_nil_of_le (by omega)]
 simp [yC];rw [Nat.mul_comm,Nat.add_comm]
structure DivInv (B A V M j:Nat) (L:List Nat) (R:Nat):Prop where
 len:L.length=M
 dig:yO B L
 eq:A=yC B (L.drop j)*V*B^j+R
 lt:R<V*B^j
theorem DivInv.start {B A V M:Nat} (hB:0<B) (h:A<V*B^M):DivInv B A V M M (List.replicate M 0) A :=
 ⟨by simp,yO.zeros hB M,by rw [List.drop_eq_nil_of_le (by simp)];simp [yC],h⟩
theorem yeQ {B V R j:Nat} (h:R<V*B^(j+1)) (hp:0<V*B^j):R/(V*B^j)<B:=by
 rw [Nat.div_lt_iff_lt_mul hp]
 have:B*(V*B^j)=V*B^(j+1):=by rw [Nat.pow_succ];grind
 omega
theorem DivInv.step {B A V M j:Nat} {L:List Nat} {R:Nat} (hB:0<B) (hV:0<V) (h:DivInv B A V M (j+1) L R) (hj:j<M) (q:Nat) (hq:q=R/(V*B^j)) :
  DivInv B A V M j (L.set j q) (R-q*(V*B^j)):=by
 have hp:0<V*B^j:=Nat.mul_pos hV (Nat.pow_pos hB)
 have hqB:q<B:=by rw [hq];exact yeQ h.lt hp
 have hR:R=q*(V*B^j)+R%(V*B^j):=by rw [hq,Nat.mul_comm];exact (Nat.div_add_mod R _).symm
 have ybp:R-q*(V*B^j)=R%(V*B^j):=by omega
 have hjl:j<L.length:=by rw [h.len];exact hj
 refine ⟨by rw [List.length_set];exact h.len,h.dig.set j q hqB,?_,?_⟩
 ·rw [ybk,List.drop_set_of_lt (by omega)]
  have hg:(L.set j q).getD j 0=q:=by rw [List.getD_eq_getElem?_getD,List.getElem?_set_self hjl];rfl
  rw [hg]
  refine yno h.eq ?_
  rw [ybp]
  have:q*V*B^j=q*(V*B^j):=by rw [Nat.mul_assoc]
  omega
 ·rw [ybp];exact Nat.mod_lt _ hp
theorem DivInv.done {B A V M:Nat} {L:List Nat} {R:Nat} (h:DivInv B A V M 0 L R):yC B L=A/V∧R=A%V:=by
 have h1:=h.eq
 have h2:=h.lt
 rw [Nat.pow_zero,Nat.mul_one] at h1 h2
 rw [List.drop_zero] at h1
 have hV:0<V:=by omega
 constructor
 ·rw [h1,Nat.mul_comm,Nat.mul_add_div hV,Nat.div_eq_of_lt h2];rfl
 ·rw [h1,Nat.mul_comm,Nat.mul_add_mod,Nat.mod_eq_of_lt h2]
theorem ykM {B V R j k:Nat} {v r:List Nat} (hB:0<B) (cv:yV B v) (hv:yC B v=V) (hk:v.length=k+1) (cr:yV B r) (hr:yC B r=R) (h:R<V*B^(j+1)) :
  r.length≤j+k+2∧0<v.getD k 0∧R/(V*B^j)≤min ((r.getD (j+k+1) 0*B+r.getD (j+k) 0)/v.getD k 0) (B-1):=by
 have hlv:=vE v cv.1
 rw [hk,hv] at hlv
 have hlen:r.length≤j+k+2:=by
  apply Nat.le_of_not_lt;intro h1
  obtain ⟨m,hm⟩:∃ m,r.length=m+1:=⟨r.length-1,by omega⟩
  have h2:=cr.pow_le m hm
  have h3:B^(j+k+2)≤B^m:=Nat.pow_le_pow_right hB (by omega)
  have h4:V*B^(j+1)≤B^(k+1)*B^(j+1):=Nat.mul_le_mul_right _ (by omega)
  rw [← Nat.pow_add] at h4
  have h5:k+1+(j+1)=j+k+2:=by omega
  rw [h5] at h4
  omega
 have hkl:k<v.length:=by omega
 have hvt:v.getD k 0≠0:=by
  rw [List.getD_eq_getElem?_getD]
  intro e
  apply cv.2
  rw [List.getLast?_eq_getElem?,hk,Nat.add_sub_cancel,List.getElem?_eq_getElem hkl]
  rw [List.getElem?_eq_getElem hkl] at e
  simpa using e
 have hVge:v.getD k 0*B^k≤V:=by
  have h1:=yN B v k
  rw [List.take_of_length_le (by omega),hv] at h1
  rw [h1,Nat.mul_comm];omega
 have hV:0<V:=by
  have:0<v.getD k 0*B^k:=Nat.mul_pos (by omega) (Nat.pow_pos hB)
  omega
 have hp:0<V*B^j:=Nat.mul_pos hV (Nat.pow_pos hB)
 refine ⟨hlen,by omega,?_⟩
 rw [Nat.le_min]
 constructor
 ·have ht:=ytx hB cr.1 (j+k) (by omega)
  rw [hr] at ht
  rw [← ht]
  refine yfG (D:=V*B^j) (R:=R) (P:=B^(j+k)) (low:=R%B^(j+k)) (by omega) (Nat.div_mul_le_self _ _) ?_ ?_ (Nat.mod_lt _ (Nat.pow_pos hB))
  ·have:v.getD k 0*B^(j+k)=v.getD k 0*B^k*B^j:=by rw [Nat.mul_assoc,← Nat.pow_add,Nat.add_comm k j]
   rw [this];exact Nat.mul_le_mul_right _ hVge
  ·rw [Nat.mul_comm];exact (Nat.div_add_mod R _).symm
 ·have:=yeQ h hp;omega
theorem yop {D R g:Nat} (_hD:0<D) (_hq:R/D≤g) (h:R<D*g):R/D≤g-1∧0<g:=by
 have h1:R/D<g:=by rw [Nat.div_lt_iff_lt_mul _hD,Nat.mul_comm];exact h
 exact ⟨Nat.le_sub_one_of_lt h1,Nat.lt_of_le_of_lt (Nat.zero_le _) h1⟩
theorem ykN {D R g:Nat} (hD:0<D) (hq:R/D≤g) (h:¬ R<D*g):g=R/D:=by
 have:g≤R/D:=by rw [Nat.le_div_iff_mul_le hD,Nat.mul_comm];omega
 omega
theorem ymr {a b s q R:Nat} (hs:0<s) (_hb:0<b) (hq:q=a*s/(b*s)) (hR:R=a*s%(b*s)):q=a/b∧R/s=a%b:=by
 subst hq hR
 constructor
 ·exact Nat.mul_div_mul_right a b hs
 ·rw [Nat.mul_mod_mul_right,Nat.mul_div_cancel _ hs]
theorem yms {B A V k:Nat} {v r:List Nat} (cv:yV B v) (hv:yC B v=V) (hk:v.length=k+1) (cr:yV B r) (hr:yC B r=A) (h:V≤A) :
  k+1≤r.length∧A<V*B^(r.length-(k+1)+1):=by
 have h1:v.length≤r.length:=yV.length_le cv cr.1 (by omega)
 refine ⟨by omega,?_⟩
 have h2:=vE r cr.1
 have h3:=cv.pow_le k hk
 rw [hv] at h3
 have h4:B^k*B^(r.length-(k+1)+1)≤V*B^(r.length-(k+1)+1):=Nat.mul_le_mul_right _ h3
 rw [← Nat.pow_add,show k+(r.length-(k+1)+1)=r.length from by omega] at h4
 omega
theorem GW (k:Nat):B9^k=10^(9*k):=by
 rw [zE,show (1000000000:Nat)=10^9 from rfl,← Nat.pow_mul]
theorem yrw {B p c c' a b s z x y:Nat} (h:z+p*c=x+y) (hs:s+B*c'=c+a+b):(z+p*s)+p*B*c'=(x+p*a)+(y+p*b):=by
 have:p*(s+B*c')=p*(c+a+b):=by rw [hs]
 grind
theorem yoq {B p c c' a b s z x y:Nat} (h:z+y=x+p*c) (hs:s+b+c=a+B*c'):(z+p*s)+(y+p*b)=(x+p*a)+p*B*c':=by
 have:p*(s+b+c)=p*(a+B*c'):=by rw [hs]
 grind
end Big
namespace Go.Proofs.YtgepehlpjpccaaaGreatDoor
open Go.RowKit Big
def yE (w:World) (v:Value) (x:Nat):Prop:=∃ p n c l,v=.slice p n c∧(n≤c∧(p=none→c=0))∧Rd w p n l∧yV B9 l∧yC B9 l=x
theorem yE.below {w w':World} {v:Value} {x:Nat} (h:yE w v x) (hb:Be w w'):yE w' v x:=by
 obtain ⟨p,n,c,l,h1,h2,h3,h4⟩:=h
 exact ⟨p,n,c,l,h1,h2,h3.below hb,h4⟩
theorem yE.zero (w:World):yE w (.slice none 0 0) 0:=⟨none,0,0,[],rfl,⟨Nat.le_refl _,fun _=>rfl⟩,Rd.nil _ _,yV.nil _,rfl⟩
theorem yE.slice {w:World} {v:Value} {x:Nat} (h:yE w v x):∃ p n c,v=.slice p n c:=by
 obtain ⟨p,n,c,_,h1,_⟩:=h
 exact ⟨p,n,c,h1⟩
theorem yvb {l:List Nat} {x K:Nat} (h:yV B9 l) (hx:yC B9 l=x) (hK:x<B9^K):l.length≤K:=by
 apply Nat.le_of_not_lt;intro h1
 obtain ⟨k,hk⟩:∃ k,l.length=k+1:=⟨l.length-1,by omega⟩
 have h2:=h.pow_le k hk
 have h3:B9^K≤B9^k:=Nat.pow_le_pow_right zU (by omega)
 omega
theorem ydk {x K:Nat} {l:List Nat} {n:Nat} {p:Oa} {w:World} (hc:yV B9 l) (hv:yC B9 l=x) (hx:x<B9^K) (hl:Rd w p n l):n≤K:=by
 have:=yvb hc hv hx;rw [hl.len] at this;exact this
theorem yE.zero_iff {w:World} {p:Oa} {n c x:Nat} (h:yE w (.slice p n c) x):n=0↔x=0:=by
 obtain ⟨p',n',c',l,h1,h2,h3,h4,h5⟩:=h
 cases h1
 have:=yV.zero_iff zU h4
 rw [h5] at this
 rw [this,← h3.len,List.length_eq_zero_iff]
def ylz (B:Nat) (v:Value):Prop:=∀ b o n c,v=.slice (some ⟨b,o,none⟩) n c→B≤b
def zJ (x:Nat) (w:World) (e:Ending) (w':World):Prop:=∃ v,e=.returned v∧yE w' v x∧Be w w'∧ylz w.heap.size v
theorem yeR (L:List Nat) (k:Nat) (h:∀ j,k≤j→j<L.length→L.getD j 0=0):yC B9 (L.drop k)=0:=by
 have:L.drop k=List.replicate (L.length-k) 0:=by
  apply List.ext_getElem
  ·simp
  ·intro i h1 h2
   have:=h (k+i) (by omega) (by simp at h1;omega)
   rw [gD (by simp at h1;omega)] at this
   simpa using this
 rw [this,uO]
theorem yck {p:Oa} {n c:Nat} {l:List Nat} {w0 w w':World} {e:Ending} (hnc:n≤c∧(p=none→c=0)) (hf:∀ b o,p=some ⟨b,o,none⟩→w0.heap.size≤b) (hl:Rd w p n l) (hd:yO B9 l) (hb:Be w0 w) (h:ygv p n c l w e w'):zJ (yC B9 l) w0 e w':=by
 obtain ⟨k,hk,rfl,rfl,hz,h0⟩:=h
 refine ⟨_,rfl,⟨p,k,c,l.take k,rfl,⟨by omega,hnc.2⟩,hl.take k hk,⟨hd.take k,?_⟩,?_⟩,hb,fun b o n' c' h=>by cases h;exact hf b o rfl⟩
 ·rcases h0 with rfl|h0
  ·simp
  ·obtain ⟨j,rfl⟩:∃ j,k=j+1:=⟨k-1,by
    have:k≠0:=by
     rintro rfl
     by_cases h1:0<n
     ·exact h0 (hz 0 (by omega) h1)
     ·apply h0;rw [List.getD_eq_getElem?_getD,List.getElem?_eq_none (by rw [hl.len];omega)];rfl
    omega⟩
   rw [List.getLast?_eq_getElem?,List.length_take,Nat.min_eq_left (by rw [hl.len];exact hk),Nat.add_sub_cancel,List.getElem?_take_of_lt (by omega)]
   rw [Nat.add_sub_cancel,List.getD_eq_getElem?_getD] at h0
   intro e1;rw [e1] at h0;exact h0 rfl
 ·rw [vB B9 l k (by rw [hl.len];exact hk),yeR l k (fun j h1 h2=>hz j h1 (by rw [hl.len] at h2;exact h2))]
  omega
theorem ycE {w:World} {base n:Nat} {v:Value} {L:List Nat} (h:w.ownsRow base 86 1 v n (zK L)):∃ p c,v=.slice p n c∧(n≤c∧(p=none→c=0))∧Rd w p n L∧∀ b o,p=some ⟨b,o,none⟩→base≤b:=by
 obtain ⟨h1,h2⟩:=h
 rw [zO,Nat.mul_one] at h1
 rcases h2 with ⟨rfl,rfl⟩|⟨g,cap,cur,rfl,hg,hh,hn,hm,hs,hc⟩
 ·exact ⟨none,0,rfl,⟨Nat.le_refl _,fun _=>rfl⟩,by rw [List.eq_nil_of_length_eq_zero h1];exact Rd.nil _ _,fun b o h=>by cases h⟩
 ·refine ⟨_,cap,rfl,⟨hn,fun h=>by cases h⟩,⟨h1,?_⟩,fun b o h=>by cases h;exact hg⟩
  by_cases h0:n=0
  ·exact .inl h0
  ·refine .inr ⟨g,0,rfl,(Array.getElem?_eq_some_iff.1 hh).1,fun j hj=>?_⟩
   rw [Nat.mul_one] at hc
   have hjl:j<L.length:=by omega
   have e:cur[j]?=(zK L)[j]?:=by
    rw [← hc,List.getElem?_take_of_lt hj,Array.getElem?_toList]
   rw [Nat.zero_add]
   simp only [World.cell?,hh]
   simp [e,zK,List.getD_eq_getElem?_getD,hjl]
structure Acc (w wr:World) (v:Value) (L:List Nat):Prop where
 own:wr.ownsRow w.heap.size 86 1 v L.length (zK L)
 below:Be w wr
theorem Acc.nil (w wr:World) (h:Be w wr):Acc w wr (.slice none 0 0) []:=⟨World.ownsRow_nil _ _ _ _,h⟩
theorem Acc.next {w wr w5:World} {v v5:Value} {L:List Nat} {m x:Nat} {o:Obj} (h:Acc w wr v L) (hm:m=L.length+1) (yP:w5.ownsRow w.heap.size 86 1 v5 m (zK L++[.int .u64 (x:Int)])) (hg:(wr.alloc o).grownBy w5 v.ownBlock):Acc w w5 v5 (L++[x]):=by
 subst hm
 refine ⟨?_,?_⟩
 ·have e:zK (L++[x])=zK L++[.int .u64 (x:Int)]:=by simp [zK]
  rw [e,List.length_append];exact yP
 ·exact (h.below.alloc h.below.size o).grown hg (by simp;have:=h.below.size;omega) (fun k hk=>(h.own.lt k hk).1)
theorem Acc.drewN {w wr:World} {v:Value} {L:List Nat} (h:Acc w wr v L) (k:Nat):Acc w (wr.drewN k) v L:=⟨h.own,h.below.trans (yG _ _ _)⟩
theorem Acc.nat {w wr:World} {v:Value} {L:List Nat} (h:Acc w wr v L) (hc:yV B9 L):zJ (yC B9 L) w (.returned v) wr:=by
 obtain ⟨p,c,rfl,hn,hr,hf⟩:=ycE h.own
 exact ⟨_,rfl,⟨p,_,c,L,rfl,hn,hr,hc,rfl⟩,h.below,fun b o n c' h=>by cases h;exact hf b o rfl⟩
theorem zF:Tryz.prog.underlying 57=some (.slice 86):=by kernel_rfl
theorem ycP (p:Oa) (n c:Nat) (l:List Nat) (w:World) (hn:n≤maxLen) (hnc:n≤c) (hl:Rd w p n l) :
  Calls Tryz.prog 126 #[.slice p n c] w (ygv p n c l w):=by
 unfold maxLen at hn
 go_in
 go_wp2
 go_loop [3] (fun i=>∃ k:Nat,k≤n∧i=.int .i64 k∧∀ j,k≤j→j<n→l.getD j 0=0) (fun i=>(intOf i).toNat)
 case atStart=>exact ⟨n,Nat.le_refl _,rfl,fun j h1 h2=>by omega⟩
 case round =>
  obtain ⟨k,hk,rfl,hz⟩:=hrel
  have Hz:=yA hz
  clear hz
  by_cases h0:k=0
  ·subst h0
   go_wp2
   go_ret
   exact ⟨0,by omega,rfl,rfl,Hz.out,.inl rfl⟩
  ·obtain ⟨b,off,d,rfl,hb,hc,hd⟩:=hl.at (k:=k-1) (by omega)
   by_cases hz:d=0
   ·subst hz
    go_wp2
    go_round
    case rel=>exact ⟨k-1,by omega,by go_num,fun j h1 h2=>by
     by_cases e:j=k-1
     ·rw [e];exact hd.out
     ·exact Hz.out j (by omega) h2⟩
    case measure=>simp [intOf];omega
   ·have hz':((d:Int)==0)=false:=by simpa using hz
    go_wp2
    go_ret
    exact ⟨k,hk,rfl,rfl,Hz.out,.inr (by rw [hd.out];exact hz)⟩
theorem yV.of_ge {B:Nat} {L:List Nat} {k:Nat} (hd:yO B L) (hk:L.length=k+1) (h:B^k≤yC B L):yV B L:=by
 refine yV.of_last hd k hk ?_
 intro h0
 have h1:=yN B L k
 rw [List.take_of_length_le (by omega),h0,Nat.mul_zero,Nat.add_zero] at h1
 have h2:=vE (L.take k) (hd.take k)
 rw [List.length_take,Nat.min_eq_left (by omega)] at h2
 omega
theorem ymt {N k:Nat} {L:List Nat} (h:k≤N∧L.length≤3∧yO B9 L∧yC B9 L+B9^L.length*k=N∧(k=0→yV B9 L)) (hN:N<18446744073709551616) (h0:¬ k=0) :
  k/1000000000≤N∧(L++[k%1000000000]).length≤3∧yO B9 (L++[k%1000000000])∧yC B9 (L++[k%1000000000])+B9^(L++[k%1000000000]).length*(k/1000000000)=N∧(k/1000000000=0→yV B9 (L++[k%1000000000])):=by
 obtain ⟨h1,h2,h3,h4,h5⟩:=h
 have hd:yO B9 (L++[k%1000000000]):=h3.append (yO.one (by rw [zE];omega))
 have hl:L.length≤2:=by
  apply Nat.le_of_not_lt;intro h6
  have:L.length=3:=by omega
  rw [this] at h4
  have h7:B9^3*1≤B9^3*k:=Nat.mul_le_mul_left _ (by omega)
  have h8:B9^3=1000000000000000000000000000:=by rw [zE]
  omega
 refine ⟨by omega,by simp;omega,hd,?_,?_⟩
 ·rw [jJ,List.length_append,List.length_singleton,Nat.pow_succ,← h4]
  have:k=k%1000000000+B9*(k/1000000000):=by rw [zE];omega
  have h9:B9^L.length*k=B9^L.length*(k%1000000000+B9*(k/1000000000)):=by rw [← this]
  rw [h9];grind
 ·intro h6
  refine yV.of_last hd L.length (by simp) ?_
  rw [List.getD_eq_getElem?_getD,List.getElem?_append_right nl,Nat.sub_self]
  simp;omega
theorem yav (N:Nat) (w:World) (hN:N<18446744073709551616) :
  Calls Tryz.prog 66 #[.int .u64 N] w (zJ N w):=by
 obtain ⟨i0,hi,hz0,hz1,hz2⟩:=info_parts vP
 have HN:=yA hN
 clear hN
 go_in
 go_wp2
 go_loopw [0,3] (fun nv ov wr=>∃ (k:Nat) (L:List Nat),nv=.int .u64 k∧Hid (k≤N∧L.length≤3∧yO B9 L∧yC B9 L+B9^L.length*k=N∧(k=0→yV B9 L))∧Hid (Acc w wr ov L)) (fun nv _ _=>(intOf nv).toNat)
 case atStart=>exact ⟨N,[],rfl,yA ⟨Nat.le_refl _,by simp,yO.nil _,by simp [yC],fun _=>yV.nil _⟩,yA (Acc.nil _ _ bR)⟩
 case round =>
  obtain ⟨k,L,rfl,yJ,jO⟩:=hrel
  obtain ⟨po,no,co,rfl⟩:∃ p n c,u3=.slice p n c:=by
   obtain ⟨p,c,h,_⟩:=ycE jO.out.own;exact ⟨_,_,_,h⟩
  by_cases h0:k=0
  ·subst h0
   have yF:Hid (zJ N w (.returned (.slice po no co)) wr):=yA (by
    have h:=jO.out.nat (yJ.out.2.2.2.2 rfl)
    have h2:=yJ.out.2.2.2.1
    rw [Nat.mul_zero,Nat.add_zero] at h2
    rw [← h2];exact h)
   go_wp2
   go_ret
   exact yF.out
  ·have hlen:Hid (L.length+1≤maxLen∧(L.length+1)*8≤140737488355328∧w.heap.size≤wr.heap.size+1):=yA (by
    have:=yJ.out.2.1
    have h:=jO.out.below.size
    unfold maxLen;omega)
   have jY:=yA (ymt yJ.out HN.out h0)
   have hk:(0:Int)<k:=by omega
   have hkb:(k:Int)≤18446744073709551615:=by have h1:=yJ.out.1;have h2:=HN.out;omega
   go_wp2_with (at_builtin;refine wpList_append_own _ rfl (.tmp 6) (.tmp 9) 57 rfl w.heap.size 86 i0 (.int .u64 0) 1 8 zF hi hz0 hz1 hz2 rfl (by decide) _ _ _ rfl ((jO.out.own).alloc _) ⟨_,0,none⟩ 1 1 [.int .u64 ((k:Int)%1000000000)] rfl rfl (cell_one_new _ _ _) (by intro u hu;simp at hu;subst hu;rfl) hlen.out.1 hlen.out.2.1 (by simp;exact hlen.out.2.2) ?_)
   intro v5 w5 yM yH _
   have jE:=yA (jO.out.next (x:=k%1000000000) rfl yM yH)
   clear yM yH
   go_wp2
   go_roundw
   case rel=>exact ⟨k/1000000000,_,rfl,jY,jE⟩
   case measure=>simp [intOf];omega
theorem yvc (w:World) (a b:Nat):∃ k,w.drewN k=(w.drewN a).drewN b:=⟨a+b,by simp only [World.drewN_drewN]⟩
theorem yeS {x y:List Nat} (hx:yV B9 x) (hy:yV B9 y) (h:x.length<y.length):jH (yC B9 x) (yC B9 y)=-1∧jH (yC B9 y) (yC B9 x)=1:=by
 have:=yV.lt_of_length hx.1 hy h
 unfold jH
 constructor
 ·rw [if_pos this]
 ·rw [if_neg (by omega),if_pos this]
theorem yf4 {x y:List Nat} (hl:x.length=y.length) (hx:yO B9 x) (k:Nat) (hk:k<x.length) (hd:x.drop (k+1)=y.drop (k+1)) (hne:x.getD k 0<y.getD k 0):jH (yC B9 x) (yC B9 y)=-1∧jH (yC B9 y) (yC B9 x)=1:=by
 have e1:=vB B9 x (k+1) (by omega)
 have e2:=vB B9 y (k+1) (by omega)
 have hky:k<y.length:=by rw [← hl];exact hk
 have g1:x.getD k 0=x[k]:=by rw [gD hk];rfl
 have g2:y.getD k 0=y[k]:=by rw [gD hky];rfl
 rw [g1,g2] at hne
 rw [hd] at e1
 have:=yaY (B:=B9) x y k hx hk hky hne
 unfold jH
 constructor
 ·rw [if_pos (by omega)]
 ·rw [if_neg (by omega),if_pos (by omega)]
theorem ykO (p:Oa) (n c:Nat) (x:List Nat) (q:Oa) (d:Nat) (y:List Nat) (w:World) (hn:n≤yK) (hx:Rd w p n x) (hy:Rd w q n y) (dx:yO B9 x) (dy:yO B9 y) :
  Calls Tryz.prog 73 #[.slice p n c,.slice q n d] w (GN (yC B9 x) (yC B9 y) w):=by
 have hn1:(n:Int)≤4294967296:=by unfold yK at hn;omega
 have h1:((n:Int) != n)=false:=by simp
 have hl:x.length=y.length:=by rw [hx.len,hy.len]
 have Hl:=yA hl
 clear hl
 go_in
 go_wp2
 go_loopw [5] (fun i wr=>∃ (k:Nat) (z:Int) (t:Nat),k≤n∧i=.int .i64 z∧z+1=k∧x.drop k=y.drop k∧wr=w.drewN t) (fun i _=>(intOf i+1).toNat)
 case atStart=>exact ⟨n,(n:Int)-1,0,Nat.le_refl _,rfl,by omega,by rw [List.drop_eq_nil_of_le (by rw [hx.len];omega),List.drop_eq_nil_of_le (by rw [hy.len];omega)],rfl⟩
 case round =>
  obtain ⟨k,z,t,hk,rfl,hz,hd,rfl⟩:=hrel
  have Hd:=yA hd
  clear hd
  by_cases h0:k=0
  ·obtain rfl:z=-1:=by omega
   subst h0
   have hxy:jH (yC B9 x) (yC B9 y)=0:=by
    have:=Hd.out;simp at this;rw [this];simp [jH]
   have Hxy:=yA hxy
   clear hxy hz
   go_wp2
   go_ret
   exact ⟨by rw [Hxy.out];rfl,t,rfl⟩
  ·obtain ⟨j,rfl⟩:∃ j:Nat,z=j:=⟨z.toNat,by omega⟩
   obtain rfl:k=j+1:=by omega
   clear hz h0
   obtain ⟨b1,o1,a,rfl,hb1,hc1,ha⟩:=hx.at (k:=j) (by omega)
   obtain ⟨b2,o2,b,rfl,hb2,hc2,hb⟩:=hy.at (k:=j) (by omega)
   have g1:(w.drewN t).cell? ⟨b1,o1+j,none⟩=some (.int .u64 (a:Int)):=hc1
   have g2:(w.drewN t).cell? ⟨b2,o2+j,none⟩=some (.int .u64 (b:Int)):=hc2
   have bj:(0:Int)≤j:=by omega
   have bj2:(j:Int)<n:=by omega
   have hlx:j<x.length:=by rw [hx.len];omega
   rcases Nat.lt_trichotomy a b with hab|hab|hab
   ·have e1:decide (a<b)=true:=by simpa using hab
    have yaa:=(yf4 Hl.out dx j hlx Hd.out (by rw [ha.out,hb.out];exact hab)).1
    have Hcmp:=yA yaa
    clear yaa hab
    go_wp2
    go_quiet (fail)
    go_wp2
    go_ret
    exact ⟨by rw [Hcmp.out];rfl,yvc _ _ _⟩
   ·subst hab
    have e1:decide (a<a)=false:=by simp
    have hd':=ycA Hl.out j hlx Hd.out (by rw [ha.out,hb.out])
    have Hd':=yA hd'
    clear hd'
    go_wp2
    go_quiet (fail)
    go_wp2
    go_quiet (fail)
    go_wp2
    go_roundw
    case rel=>exact ⟨j,(j:Int)-1,_,by omega,rfl,by omega,Hd'.out,rfl⟩
    case measure=>simp [intOf]
   ·have e1:decide (a<b)=false:=by simp;omega
    have e2:decide (b<a)=true:=by simpa using hab
    have yaa:=(yf4 Hl.out.symm dy j (by rw [← Hl.out];exact hlx) Hd.out.symm (by rw [ha.out,hb.out];exact hab)).2
    have Hcmp:=yA yaa
    clear yaa hab
    go_wp2
    go_quiet (fail)
    go_wp2
    go_quiet (fail)
    go_wp2
    go_ret
    exact ⟨by rw [Hcmp.out];rfl,yqd _ _ _ _⟩
theorem yiC (p:Oa) (n c:Nat) (x:List Nat) (q:Oa) (m d:Nat) (y:List Nat) (w:World) (hn:n≤yK) (hm:m≤yK) (hnm:n≠m) (hx:Rd w p n x) (hy:Rd w q m y) (cx:yV B9 x) (cy:yV B9 y) :
  Calls Tryz.prog 73 #[.slice p n c,.slice q m d] w (GN (yC B9 x) (yC B9 y) w):=by
 have hn1:(n:Int)≤4294967296:=by unfold yK at hn;omega
 have hm1:(m:Int)≤4294967296:=by unfold yK at hm;omega
 have h1:((n:Int) != m)=true:=by simp;omega
 rcases Nat.lt_or_gt_of_ne hnm with h2|h2
 ·have Hc:=yA (yeS cx cy (by rw [hx.len,hy.len];exact h2)).1
  have h3:(n:Int)<m:=by omega
  go_in
  go_wp2
  go_ret
  exact ⟨by rw [Hc.out];rfl,0,rfl⟩
 ·have Hc:=yA (yeS cy cx (by rw [hx.len,hy.len];exact h2)).2
  have h3:¬ (n:Int)<m:=by omega
  go_in
  go_wp2
  go_ret
  exact ⟨by rw [Hc.out];rfl,0,rfl⟩
theorem GU (u v:Value) (a b K:Nat) (w:World) (hK:K≤yK) (ha:a<B9^K) (hb:b<B9^K) (hu:yE w u a) (hv:yE w v b):Calls Tryz.prog 73 #[u,v] w (GN a b w):=by
 obtain ⟨p,n,c,x,rfl,h1,h2,h3,h4⟩:=hu
 obtain ⟨q,m,d,y,rfl,g1,g2,g3,g4⟩:=hv
 have hn:=ydk h3 h4 ha h2
 have hm:=ydk g3 g4 hb g2
 rw [← h4,← g4]
 by_cases hnm:n=m
 ·subst hnm
  exact ykO p n c x q d y w (by omega) h2 g2 h3.1 g3.1
 ·exact yiC p n c x q m d y w (by omega) (by omega) hnm h2 g2 h3 g3
structure AddInv9 (x y:List Nat) (k c:Nat) (L:List Nat):Prop where
 len:L.length=k
 dig:yO B9 L
 car:c≤1
 eq:yC B9 L+B9^k*c=yC B9 (x.take k)+yC B9 (y.take k)
 top:k≤max x.length y.length∨(k=max x.length y.length+1∧c=0∧B9^max x.length y.length≤yC B9 x+yC B9 y)
theorem AddInv9.start (x y:List Nat):AddInv9 x y 0 0 []:=⟨rfl,yO.nil _,by omega,by simp [yC],.inl (Nat.zero_le _)⟩
theorem AddInv9.step {x y:List Nat} {k c:Nat} {L:List Nat} (h:AddInv9 x y k c L) (dx:yO B9 x) (dy:yO B9 y) (a b s:Nat) (ha:x.getD k 0=a) (hb:y.getD k 0=b) (hs:s=c+a+b) (hg:k<max x.length y.length∨c=1) :
  AddInv9 x y (k+1) (s/1000000000) (L++[s%1000000000]):=by
 have h1:=dx.getD zU k
 have h2:=dy.getD zU k
 rw [ha] at h1;rw [hb] at h2
 have h3:=h.car
 have e9:=zE
 refine ⟨by rw [List.length_append,h.len];rfl,h.dig.append (yO.one (by omega)),by omega,?_,?_⟩
 ·rw [jJ,h.len,yN,yN,ha,hb,Nat.pow_succ]
  exact yrw h.eq (by rw [zE];omega)
 ·rcases h.top with h4|⟨_,h4,_⟩
  ·by_cases h5:k<max x.length y.length
   ·exact .inl (by omega)
   ·have hc:c=1:=by omega
    have hk:k=max x.length y.length:=by omega
    have ha0:a=0:=by rw [← ha,List.getD_eq_getElem?_getD,List.getElem?_eq_none (by omega)];rfl
    have hb0:b=0:=by rw [← hb,List.getD_eq_getElem?_getD,List.getElem?_eq_none (by omega)];rfl
    refine .inr ⟨by omega,by omega,?_⟩
    have h6:=h.eq
    rw [hc,List.take_of_length_le (by omega),List.take_of_length_le (by omega),Nat.mul_one] at h6
    rw [← hk];omega
  ·omega
theorem AddInv9.done {x y:List Nat} {k:Nat} {L:List Nat} (h:AddInv9 x y k 0 L) (cx:yV B9 x) (cy:yV B9 y) (h1:x.length≤k) (h2:y.length≤k):yV B9 L∧yC B9 L=yC B9 x+yC B9 y:=by
 have h3:=h.eq
 rw [List.take_of_length_le (by omega),List.take_of_length_le (by omega),Nat.mul_zero,Nat.add_zero] at h3
 refine ⟨?_,h3⟩
 by_cases h0:k=0
 ·have:=h.len
  rw [h0] at this
  rw [List.eq_nil_of_length_eq_zero this];exact yV.nil _
 ·obtain ⟨j,rfl⟩:∃ j,k=j+1:=⟨k-1,by omega⟩
  refine yV.of_ge h.dig h.len ?_
  rw [h3]
  rcases h.top with h4|⟨h4,_,h5⟩
  ·by_cases h6:x.length≤y.length
   ·have:=cy.pow_le j (by omega);omega
   ·have:=cx.pow_le j (by omega);omega
  ·have:j=max x.length y.length:=by omega
   rw [this];exact h5
theorem ykP (p:Oa) (n c0:Nat) (x:List Nat) (q:Oa) (m d0:Nat) (y:List Nat) (w:World) (hn0:n≤yK) (hm0:m≤yK) (hx:Rd w p n x) (hy:Rd w q m y) (cx:yV B9 x) (cy:yV B9 y) :
  Calls Tryz.prog 72 #[.slice p n c0,.slice q m d0] w (zJ (yC B9 x+yC B9 y) w):=by
 obtain ⟨i0,hi,hz0,hz1,hz2⟩:=info_parts vP
 have hn:(n:Int)≤4294967296:=by unfold yK at hn0;omega
 have hm:(m:Int)≤4294967296:=by unfold yK at hm0;omega
 have HX:=yA cx
 have HY:=yA cy
 clear cx cy
 obtain ⟨M,hM⟩:∃ M,Hid (M=max n m):=⟨_,yA rfl⟩
 have hmax:max (n:Int) m=(M:Int):=by have:=hM.out;omega
 go_in
 go_wp2_with (at_make;refine wpList_make_own _ rfl _ _ 57 rfl w.heap.size 86 i0 (.int .u64 0) 1 zF hi hz0 hz1 _ _ _ (M+1) rfl rfl ?b1 ?b2 ?b3 nl ?_)
 case b1=>have:=hM.out;omega
 case b2=>rw [hz2];have:=hM.out;omega
 case b3=>unfold maxLen;have:=hM.out;omega
 intro w1 yP zB
 have yi9:Hid (Acc w w1 (.slice (some ⟨w.heap.size,0,none⟩) 0 (M+1)) []):=yA ⟨yP,bR.grown zB nl (fun k h=>by cases h)⟩
 clear yP zB
 go_wp2
 go_loopw [5,6,7] (fun ov cv iv wr=>∃ (k c:Nat) (L:List Nat),cv=.int .u64 c∧iv=.int .i64 k∧Hid (AddInv9 x y k c L∧k≤M+1)∧Hid (Acc w wr ov L)) (fun _ _ iv _=>M+2-(intOf iv).toNat)
 case atStart=>exact ⟨0,0,[],rfl,rfl,yA ⟨AddInv9.start x y,Nat.zero_le _⟩,yi9⟩
 case round =>
  obtain ⟨k,c,L,rfl,rfl,yJ,jO⟩:=hrel
  obtain ⟨po,no,co,rfl⟩:∃ p n c,u5=.slice p n c:=by
   obtain ⟨p,c,h,_⟩:=ycE jO.out.own;exact ⟨_,_,_,h⟩
  have hlx:Hid (x.length=n):=yA hx.len
  have hly:Hid (y.length=m):=yA hy.len
  have hlen:Hid (L.length+1≤maxLen∧(L.length+1)*8≤140737488355328∧w.heap.size≤wr.heap.size+1):=yA (by
   have h1:=yJ.out.1.len
   have h2:=yJ.out.2
   have h:=jO.out.below.size
   unfold maxLen;omega)
  have hcb:(c:Int)≤1:=by have:=yJ.out.1.car;omega
  have hkb:(k:Int)≤4294967298:=by have:=yJ.out.2;omega
  by_cases h1:k<n
  ·have e1:(k:Int)<n:=by omega
   by_cases h2:k<m
   ·have e2:(k:Int)<m:=by omega
    obtain ⟨b1,o1,a,rfl,hb1,hc1,ha⟩:=hx.at (k:=k) (by omega)
    have g1:wr.cell? ⟨b1,o1+k,none⟩=some (.int .u64 (a:Int)):=(jO.out.below.cell (p:=⟨b1,o1+k,none⟩) hb1).trans hc1
    have da:(a:Int)≤999999999:=by have h:=HX.out.1.getD zU k;rw [ha.out,zE] at h;omega
    obtain ⟨b2,o2,b,rfl,hb2,hc2,hb⟩:=hy.at (k:=k) (by omega)
    have g2:wr.cell? ⟨b2,o2+k,none⟩=some (.int .u64 (b:Int)):=(jO.out.below.cell (p:=⟨b2,o2+k,none⟩) hb2).trans hc2
    have db:(b:Int)≤999999999:=by have h:=HY.out.1.getD zU k;rw [hb.out,zE] at h;omega
    have jY:=yA (yJ.out.1.step HX.out.1 HY.out.1 a b (c+a+b) ha.out hb.out (by omega) (by rw [hlx.out,hly.out];omega))
    obtain ⟨s1,hs1⟩:∃ s1:Nat,Hid (s1=(c+a+b)%1000000000):=⟨_,yA rfl⟩
    rw [← hs1.out] at jY
    have hw1:((c:Int)+a+b)%1000000000=(s1:Int):=by rw [hs1.out];omega
    have hk1:k≤M:=by rw [hM.out];have:=yJ.out.1.top;rw [hlx.out,hly.out] at this;omega
    go_wp2_with (at_builtin;refine wpList_append_own _ rfl (.tmp 51) (.tmp 54) 57 rfl w.heap.size 86 i0 (.int .u64 0) 1 8 zF hi hz0 hz1 hz2 rfl (by decide) _ _ _ rfl ((jO.out.own).alloc _) ⟨_,0,none⟩ 1 1 [.int .u64 (s1:Int)] rfl rfl (cell_one_new _ _ _) (by intro u hu;simp at hu;subst hu;rfl) hlen.out.1 hlen.out.2.1 (by simp;exact hlen.out.2.2) ?_)
    intro v5 w5 yM yH _
    have jE:=yA (jO.out.next rfl yM yH)
    clear yM yH
    go_wp2
    go_roundw
    case rel=>exact ⟨k+1,_,_,rfl,by go_num,yA ⟨jY.out,by omega⟩,jE⟩
    case measure=>simp [intOf];omega
   ·have e2:¬ (k:Int)<m:=by omega
    obtain ⟨b1,o1,a,rfl,hb1,hc1,ha⟩:=hx.at (k:=k) (by omega)
    have g1:wr.cell? ⟨b1,o1+k,none⟩=some (.int .u64 (a:Int)):=(jO.out.below.cell (p:=⟨b1,o1+k,none⟩) hb1).trans hc1
    have da:(a:Int)≤999999999:=by have h:=HX.out.1.getD zU k;rw [ha.out,zE] at h;omega
    obtain ⟨b,hb,hb0⟩:∃ b,Hid (y.getD k 0=b)∧b=0:=⟨_,yA rfl,by rw [List.getD_eq_getElem?_getD,List.getElem?_eq_none (by rw [hly.out];omega)];rfl⟩
    have jY:=yA (yJ.out.1.step HX.out.1 HY.out.1 a b (c+a) ha.out hb.out (by omega) (by rw [hlx.out,hly.out];omega))
    obtain ⟨s1,hs1⟩:∃ s1:Nat,Hid (s1=(c+a)%1000000000):=⟨_,yA rfl⟩
    rw [← hs1.out] at jY
    have hw1:((c:Int)+a)%1000000000=(s1:Int):=by rw [hs1.out];omega
    clear hb0
    have hk1:k≤M:=by rw [hM.out];have:=yJ.out.1.top;rw [hlx.out,hly.out] at this;omega
    go_wp2_with (at_builtin;refine wpList_append_own _ rfl (.tmp 51) (.tmp 54) 57 rfl w.heap.size 86 i0 (.int .u64 0) 1 8 zF hi hz0 hz1 hz2 rfl (by decide) _ _ _ rfl ((jO.out.own).alloc _) ⟨_,0,none⟩ 1 1 [.int .u64 (s1:Int)] rfl rfl (cell_one_new _ _ _) (by intro u hu;simp at hu;subst hu;rfl) hlen.out.1 hlen.out.2.1 (by simp;exact hlen.out.2.2) ?_)
    intro v5 w5 yM yH _
    have jE:=yA (jO.out.next rfl yM yH)
    clear yM yH
    go_wp2
    go_roundw
    case rel=>exact ⟨k+1,_,_,rfl,by go_num,yA ⟨jY.out,by omega⟩,jE⟩
    case measure=>simp [intOf];omega
  ·have e1:¬ (k:Int)<n:=by omega
   by_cases h2:k<m
   ·have e2:(k:Int)<m:=by omega
    obtain ⟨a,ha,ha0⟩:∃ a,Hid (x.getD k 0=a)∧a=0:=⟨_,yA rfl,by rw [List.getD_eq_getElem?_getD,List.getElem?_eq_none (by rw [hlx.out];omega)];rfl⟩
    obtain ⟨b2,o2,b,rfl,hb2,hc2,hb⟩:=hy.at (k:=k) (by omega)
    have g2:wr.cell? ⟨b2,o2+k,none⟩=some (.int .u64 (b:Int)):=(jO.out.below.cell (p:=⟨b2,o2+k,none⟩) hb2).trans hc2
    have db:(b:Int)≤999999999:=by have h:=HY.out.1.getD zU k;rw [hb.out,zE] at h;omega
    have jY:=yA (yJ.out.1.step HX.out.1 HY.out.1 a b (c+b) ha.out hb.out (by omega) (by rw [hlx.out,hly.out];omega))
    obtain ⟨s1,hs1⟩:∃ s1:Nat,Hid (s1=(c+b)%1000000000):=⟨_,yA rfl⟩
    rw [← hs1.out] at jY
    have hw1:((c:Int)+b)%1000000000=(s1:Int):=by rw [hs1.out];omega
    clear ha0
    have hk1:k≤M:=by rw [hM.out];have:=yJ.out.1.top;rw [hlx.out,hly.out] at this;omega
    go_wp2_with (at_builtin;refine wpList_append_own _ rfl (.tmp 51) (.tmp 54) 57 rfl w.heap.size 86 i0 (.int .u64 0) 1 8 zF hi hz0 hz1 hz2 rfl (by decide) _ _ _ rfl ((jO.out.own).alloc _) ⟨_,0,none⟩ 1 1 [.int .u64 (s1:Int)] rfl rfl (cell_one_new _ _ _) (by intro u hu;simp at hu;subst hu;rfl) hlen.out.1 hlen.out.2.1 (by simp;exact hlen.out.2.2) ?_)
    intro v5 w5 yM yH _
    have jE:=yA (jO.out.next rfl yM yH)
    clear yM yH
    go_wp2
    go_roundw
    case rel=>exact ⟨k+1,_,_,rfl,by go_num,yA ⟨jY.out,by omega⟩,jE⟩
    case measure=>simp [intOf];omega
   ·have e2:¬ (k:Int)<m:=by omega
    by_cases h3:c=0
    ·subst h3
     have yF:Hid (zJ (yC B9 x+yC B9 y) w (.returned (.slice po no co)) wr):=yA (by
      obtain ⟨g1,g2⟩:=yJ.out.1.done HX.out HY.out (by rw [hlx.out];omega) (by rw [hly.out];omega)
      rw [← g2];exact jO.out.nat g1)
     go_wp2
     go_ret
     exact yF.out
    ·have e3:(0:Int)<c:=by omega
     obtain ⟨a,ha,ha0⟩:∃ a,Hid (x.getD k 0=a)∧a=0:=⟨_,yA rfl,by rw [List.getD_eq_getElem?_getD,List.getElem?_eq_none (by rw [hlx.out];omega)];rfl⟩
     obtain ⟨b,hb,hb0⟩:∃ b,Hid (y.getD k 0=b)∧b=0:=⟨_,yA rfl,by rw [List.getD_eq_getElem?_getD,List.getElem?_eq_none (by rw [hly.out];omega)];rfl⟩
     obtain rfl:c=1:=by omega
     have jY:=yA (yJ.out.1.step HX.out.1 HY.out.1 a b 1 ha.out hb.out (by omega) (by omega))
     rw [show 1/1000000000=0 from rfl,show 1%1000000000=1 from rfl] at jY
     clear ha0 hb0
     have hk1:k≤M:=by rw [hM.out];have:=yJ.out.1.top;rw [hlx.out,hly.out] at this;omega
     go_wp2_with (at_builtin;refine wpList_append_own _ rfl (.tmp 51) (.tmp 54) 57 rfl w.heap.size 86 i0 (.int .u64 0) 1 8 zF hi hz0 hz1 hz2 rfl (by decide) _ _ _ rfl ((jO.out.own).alloc _) ⟨_,0,none⟩ 1 1 [.int .u64 1] rfl rfl (cell_one_new _ _ _) (by intro u hu;simp at hu;subst hu;rfl) hlen.out.1 hlen.out.2.1 (by simp;exact hlen.out.2.2) ?_)
     intro v5 w5 yM yH _
     have jE:=yA (jO.out.next (x:=1) rfl yM yH)
     clear yM yH
     go_wp2
     go_roundw
     case rel=>exact ⟨k+1,0,_,rfl,by go_num,yA ⟨jY.out,by omega⟩,jE⟩
     case measure=>simp [intOf];omega
theorem ymu (u v:Value) (a b K:Nat) (w:World) (hK:K≤yK) (ha:a<B9^K) (hb:b<B9^K) (hu:yE w u a) (hv:yE w v b):Calls Tryz.prog 72 #[u,v] w (zJ (a+b) w):=by
 obtain ⟨p,n,c,x,rfl,h1,h2,h3,h4⟩:=hu
 obtain ⟨q,m,d,y,rfl,g1,g2,g3,g4⟩:=hv
 have hn:=ydk h3 h4 ha h2
 have hm:=ydk g3 g4 hb g2
 rw [← h4,← g4]
 exact ykP p n c x q m d y w (by omega) (by omega) h2 g2 h3 g3
end Go.Proofs.YtgepehlpjpccaaaGreatDoor
