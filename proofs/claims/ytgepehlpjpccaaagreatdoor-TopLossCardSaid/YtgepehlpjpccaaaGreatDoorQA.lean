/- Contracts. -/
import Derived.Test.YtgepehlpjpccaaaGreatDoorTA
import Derived.Test.YtgepehlpjpccaaaGreatDoorShelfB
import Derived.Test.YtgepehlpjpccaaaGreatDoorCE
set_option maxHeartbeats 3200000
set_option maxRecDepth 100000
namespace Go.Proofs.YtgepehlpjpccaaaGreatDoor
open Go.RowKit Big
open Go.Lib
structure Env (w:World):Prop where
 tab:Tab w
 syn:∃ ev,w.cell? ⟨0,0,none⟩=some ev∧(ev=.nilIface∨∃ te pe,ev=.iface te pe)
 rng:∃ ev,w.cell? ⟨1,0,none⟩=some ev∧(ev=.nilIface∨∃ te pe,ev=.iface te pe)
theorem Env.below {w w':World} (h:Env w) (hb:Below w.heap.size w w'):Env w':=by
 obtain ⟨e1,h1,k1⟩:=h.syn
 obtain ⟨e2,h2,k2⟩:=h.rng
 refine ⟨h.tab.below hb,⟨e1,?_,k1⟩,⟨e2,?_,k2⟩⟩
 ·have hG:0<w.heap.size:=Lib.lt_of_cell h1
  exact (hb.cell (show (⟨0,0,none⟩:Addr).block<w.heap.size from hG)).trans h1
 ·have hG:1<w.heap.size:=Lib.lt_of_cell h2
  exact (hb.cell (show (⟨1,0,none⟩:Addr).block<w.heap.size from hG)).trans h2
theorem yoQ {l:List UInt8} {q:Rat} (h:num l=some q):l.length≤82:=by
 unfold num uD at h
 split at h
 ·cases h
 ·omega
theorem yrA (l:List UInt8):yhp l=(num l).isSome:=by
 unfold num yhp
 cases uD l<;>rfl
def yeA (o:Option Int) (w:World) (e:Ending) (w':World):Prop:=Below w.heap.size w w'∧match o with
 | some v=>e=.returned (.tuple #[.int .i64 v,.nilIface])
 | none=>∃ z T N,e=.returned (.tuple #[.int .i64 z,.iface T (.pointer (some ⟨N,0,none⟩))])
theorem ycV {w w':World} (h:w'=w∨∃ t,w'=Lib.bytesWorld w 5 t):Below w.heap.size w w':=by
 rcases h with rfl|⟨t,rfl⟩
 ·exact Below.refl _ _
 ·exact Lib.bytesWorld_below _ _ _
theorem ysv (B:Nat) (hB:B=8∨B=16∨B=32∨B=64) (x:ByteArray) (q:Rat) (hx:num x.data.toList=some q) (w:World) (h:Env w):Calls Tryz.prog 127 #[.string x,.int .i64 10,.int .i64 (B:Int)] w (yeA (yax B x.data.toList) w):=by
 have hl:=yoQ hx
 have hs:x.size≤82:=by rw [← ByteArray.size_data];simpa using hl
 obtain ⟨e1,h1,k1⟩:=h.syn
 obtain ⟨e2,h2,k2⟩:=h.rng
 rcases hB with rfl|rfl|rfl|rfl
 ·have hp:=ygd (B:=8) (by decide) (by decide) hx
  unfold yeA
  cases hi:yax 8 x.data.toList with
  | some v =>
   rw [hi] at hp
   exact (Tryz.strconv_ParseInt_10_at8_ok x (by omega) v hp w).mono fun e w' h=>⟨ycV h.2,h.1⟩
  | none =>
   rw [hi] at hp
   rcases hp with hp|hp
   ·exact (Tryz.strconv_ParseInt_10_at8_syntax x (by omega) hp e1 w h1 k1).mono fun e w' ⟨N,h,_,_,hb⟩=>⟨hb,_,_,N,h⟩
   ·exact (Tryz.strconv_ParseInt_10_at8_range x (by omega) hp e2 w h2 k2).mono fun e w' ⟨N,h,_,_,hb⟩=>⟨hb,_,_,N,h⟩
 ·have hp:=ygd (B:=16) (by decide) (by decide) hx
  unfold yeA
  cases hi:yax 16 x.data.toList with
  | some v =>
   rw [hi] at hp
   exact (Tryz.strconv_ParseInt_10_at16_ok x (by omega) v hp w).mono fun e w' h=>⟨ycV h.2,h.1⟩
  | none =>
   rw [hi] at hp
   rcases hp with hp|hp
   ·exact (Tryz.strconv_ParseInt_10_at16_syntax x (by omega) hp e1 w h1 k1).mono fun e w' ⟨N,h,_,_,hb⟩=>⟨hb,_,_,N,h⟩
   ·exact (Tryz.strconv_ParseInt_10_at16_range x (by omega) hp e2 w h2 k2).mono fun e w' ⟨N,h,_,_,hb⟩=>⟨hb,_,_,N,h⟩
 ·have hp:=ygd (B:=32) (by decide) (by decide) hx
  unfold yeA
  cases hi:yax 32 x.data.toList with
  | some v =>
   rw [hi] at hp
   exact (Tryz.strconv_ParseInt_10_at32_ok x (by omega) v hp w).mono fun e w' h=>⟨ycV h.2,h.1⟩
  | none =>
   rw [hi] at hp
   rcases hp with hp|hp
   ·exact (Tryz.strconv_ParseInt_10_at32_syntax x (by omega) hp e1 w h1 k1).mono fun e w' ⟨N,h,_,_,hb⟩=>⟨hb,_,_,N,h⟩
   ·exact (Tryz.strconv_ParseInt_10_at32_range x (by omega) hp e2 w h2 k2).mono fun e w' ⟨N,h,_,_,hb⟩=>⟨hb,_,_,N,h⟩
 ·have hp:=ygd (B:=64) (by decide) (by decide) hx
  unfold yeA
  cases hi:yax 64 x.data.toList with
  | some v =>
   rw [hi] at hp
   exact (Tryz.strconv_ParseInt_10_at64_ok x (by omega) v hp w).mono fun e w' h=>⟨ycV h.2,h.1⟩
  | none =>
   rw [hi] at hp
   rcases hp with hp|hp
   ·exact (Tryz.strconv_ParseInt_10_at64_syntax x (by omega) hp e1 w h1 k1).mono fun e w' ⟨N,h,_,_,hb⟩=>⟨hb,_,_,N,h⟩
   ·exact (Tryz.strconv_ParseInt_10_at64_range x (by omega) hp e2 w h2 k2).mono fun e w' ⟨N,h,_,_,hb⟩=>⟨hb,_,_,N,h⟩
def ybE (o:Option Int) (w:World) (e:Ending) (w':World):Prop:=e=.returned (.tuple #[.int .i64 (o.getD 0),.bool o.isSome])∧Below w.heap.size w w'
theorem ynA (x:ByteArray) (B:Int) (w:World) (hv:Hid (Calls Tryz.prog 92 #[.string x] w fun e w'=>e=.returned (.bool false)∧Below w.heap.size w w')):Calls Tryz.prog 93 #[.string x,.int .i64 B] w (ybE none w):=by
 unfold ybE
 go_enter Tryz.func93,Tryz.ntmps93
 go_wp2_with fail
 refine hv.out.mono ?_
 rintro e w1 ⟨rfl,hb1⟩
 have HB:=yA hb1
 clear hb1
 go_wp2_with fail
 go_ret2
 exact ⟨rfl,HB.out⟩
theorem ylF (x:ByteArray) (B:Int) (w:World) (hv:Hid (Calls Tryz.prog 92 #[.string x] w fun e w'=>e=.returned (.bool true)∧Below w.heap.size w w'))
  (hp:Hid (∀ W,Below w.heap.size w W→Calls Tryz.prog 127 #[.string x,.int .i64 10,.int .i64 B] W fun e w'=>Below W.heap.size W w'∧∃ z T N,e=.returned (.tuple #[.int .i64 z,.iface T (.pointer (some ⟨N,0,none⟩))]))):Calls Tryz.prog 93 #[.string x,.int .i64 B] w (ybE none w):=by
 unfold ybE
 go_enter Tryz.func93,Tryz.ntmps93
 go_wp2_with fail
 refine hv.out.mono ?_
 rintro e w1 ⟨rfl,hb1⟩
 have HB:=yA hb1
 clear hb1
 go_wp2_with fail
 refine (hp.out _ HB.out).mono ?_
 rintro e w2 ⟨hb2,z,T,n,rfl⟩
 have uV:=yA (HB.out.trans (hb2.mono HB.out.size))
 clear hb2
 go_wp2_with fail
 go_ret2
 exact ⟨rfl,uV.out⟩
theorem ylG (x:ByteArray) (B v:Int) (w:World) (hv:Hid (Calls Tryz.prog 92 #[.string x] w fun e w'=>e=.returned (.bool true)∧Below w.heap.size w w'))
  (hp:Hid (∀ W,Below w.heap.size w W→Calls Tryz.prog 127 #[.string x,.int .i64 10,.int .i64 B] W fun e w'=>Below W.heap.size W w'∧e=.returned (.tuple #[.int .i64 v,.nilIface]))):Calls Tryz.prog 93 #[.string x,.int .i64 B] w (ybE (some v) w):=by
 unfold ybE
 go_enter Tryz.func93,Tryz.ntmps93
 go_wp2_with fail
 refine hv.out.mono ?_
 rintro e w1 ⟨rfl,hb1⟩
 have HB:=yA hb1
 clear hb1
 go_wp2_with fail
 refine (hp.out _ HB.out).mono ?_
 rintro e w2 ⟨hb2,rfl⟩
 have uV:=yA (HB.out.trans (hb2.mono HB.out.size))
 clear hb2
 go_wp2_with fail
 go_ret2
 exact ⟨rfl,uV.out⟩
theorem ylH (B:Nat) (hB:B=8∨B=16∨B=32∨B=64) (x:ByteArray) (w:World) (h:Env w):Calls Tryz.prog 93 #[.string x,.int .i64 (B:Int)] w (ybE (yax B x.data.toList) w):=by
 have hv:=yik x w h.tab
 rw [yrA] at hv
 cases hx:num x.data.toList with
 | none =>
  rw [hx] at hv
  have e:yax B x.data.toList=none:=by unfold yax;rw [hx]
  rw [e]
  exact ynA x B w (yA hv)
 | some q =>
  rw [hx] at hv
  have hp:=fun W (hW:Below w.heap.size w W)=>ysv B hB x q hx W (h.below hW)
  unfold yeA at hp
  cases hi:yax B x.data.toList with
  | none=>rw [hi] at hp;exact ylF x B w (yA hv) (yA hp)
  | some v=>rw [hi] at hp;exact ylG x B v w (yA hv) (yA hp)
end Go.Proofs.YtgepehlpjpccaaaGreatDoor
set_option maxHeartbeats 3200000
set_option maxRecDepth 100000
namespace Go.Proofs.YtgepehlpjpccaaaGreatDoor
open Go.RowKit Big
open Go.Lib
def uB (kind:Int) (l:List UInt8):Bool :=
 if kind=1 then l.isEmpty || (yax 8 l).isSome else if kind=2 then l.isEmpty || (yax 16 l).isSome else if kind=3 then l.isEmpty || (yax 32 l).isSome
 else if kind=4 then l.isEmpty || (yax 64 l).isSome else if kind=5 then l.isEmpty || (num l).isSome else false
theorem ynB (z:Int) (f:Bool) (w:World) (h76:Hid (∀ W,Below w.heap.size w W→Calls Tryz.prog 93 #[.string ⟨#[]⟩,.int .i64 8] W fun e w'=>e=.returned (.tuple #[.int .i64 z,.bool f])∧Below W.heap.size W w')):Calls Tryz.prog 46 #[.int .i64 1,.string ⟨#[]⟩] w fun e w'=>e=.returned (.bool true)∧Below w.heap.size w w':=by
 go_enter Tryz.func46,Tryz.ntmps46
 go_wp2_with fail
 refine (h76.out _ (Below.refl _ _)).mono ?_
 rintro e w1 ⟨rfl,hb⟩
 have B1:=yA (hb)
 clear hb
 go_wp2_with fail
 go_ret
 exact ⟨rfl,B1.out⟩
theorem ylI (l:List UInt8) (_hl:¬ l=[]) (hl2:l.isEmpty=false) (z:Int) (f:Bool) (w:World) (h76:Hid (∀ W,Below w.heap.size w W→Calls Tryz.prog 93 #[.string ⟨l.toArray⟩,.int .i64 8] W fun e w'=>e=.returned (.tuple #[.int .i64 z,.bool f])∧Below W.heap.size W w')):Calls Tryz.prog 46 #[.int .i64 1,.string ⟨l.toArray⟩] w fun e w'=>e=.returned (.bool f)∧Below w.heap.size w w':=by
 go_enter Tryz.func46,Tryz.ntmps46
 go_wp2_with fail
 refine (h76.out _ (Below.refl _ _)).mono ?_
 rintro e w1 ⟨rfl,hb⟩
 have B1:=yA (hb)
 clear hb
 go_wp2_with fail
 go_ret
 exact ⟨rfl,B1.out⟩
theorem ynC (z:Int) (f:Bool) (w:World) (h76:Hid (∀ W,Below w.heap.size w W→Calls Tryz.prog 93 #[.string ⟨#[]⟩,.int .i64 16] W fun e w'=>e=.returned (.tuple #[.int .i64 z,.bool f])∧Below W.heap.size W w')):Calls Tryz.prog 46 #[.int .i64 2,.string ⟨#[]⟩] w fun e w'=>e=.returned (.bool true)∧Below w.heap.size w w':=by
 go_enter Tryz.func46,Tryz.ntmps46
 go_wp2_with fail
 refine (h76.out _ (Below.refl _ _)).mono ?_
 rintro e w1 ⟨rfl,hb⟩
 have B1:=yA (hb)
 clear hb
 go_wp2_with fail
 go_ret
 exact ⟨rfl,B1.out⟩
theorem ylJ (l:List UInt8) (_hl:¬ l=[]) (hl2:l.isEmpty=false) (z:Int) (f:Bool) (w:World) (h76:Hid (∀ W,Below w.heap.size w W→Calls Tryz.prog 93 #[.string ⟨l.toArray⟩,.int .i64 16] W fun e w'=>e=.returned (.tuple #[.int .i64 z,.bool f])∧Below W.heap.size W w')):Calls Tryz.prog 46 #[.int .i64 2,.string ⟨l.toArray⟩] w fun e w'=>e=.returned (.bool f)∧Below w.heap.size w w':=by
 go_enter Tryz.func46,Tryz.ntmps46
 go_wp2_with fail
 refine (h76.out _ (Below.refl _ _)).mono ?_
 rintro e w1 ⟨rfl,hb⟩
 have B1:=yA (hb)
 clear hb
 go_wp2_with fail
 go_ret
 exact ⟨rfl,B1.out⟩
theorem ynD (z:Int) (f:Bool) (w:World) (h76:Hid (∀ W,Below w.heap.size w W→Calls Tryz.prog 93 #[.string ⟨#[]⟩,.int .i64 32] W fun e w'=>e=.returned (.tuple #[.int .i64 z,.bool f])∧Below W.heap.size W w')):Calls Tryz.prog 46 #[.int .i64 3,.string ⟨#[]⟩] w fun e w'=>e=.returned (.bool true)∧Below w.heap.size w w':=by
 go_enter Tryz.func46,Tryz.ntmps46
 go_wp2_with fail
 refine (h76.out _ (Below.refl _ _)).mono ?_
 rintro e w1 ⟨rfl,hb⟩
 have B1:=yA (hb)
 clear hb
 go_wp2_with fail
 go_ret
 exact ⟨rfl,B1.out⟩
theorem ylK (l:List UInt8) (_hl:¬ l=[]) (hl2:l.isEmpty=false) (z:Int) (f:Bool) (w:World) (h76:Hid (∀ W,Below w.heap.size w W→Calls Tryz.prog 93 #[.string ⟨l.toArray⟩,.int .i64 32] W fun e w'=>e=.returned (.tuple #[.int .i64 z,.bool f])∧Below W.heap.size W w')):Calls Tryz.prog 46 #[.int .i64 3,.string ⟨l.toArray⟩] w fun e w'=>e=.returned (.bool f)∧Below w.heap.size w w':=by
 go_enter Tryz.func46,Tryz.ntmps46
 go_wp2_with fail
 refine (h76.out _ (Below.refl _ _)).mono ?_
 rintro e w1 ⟨rfl,hb⟩
 have B1:=yA (hb)
 clear hb
 go_wp2_with fail
 go_ret
 exact ⟨rfl,B1.out⟩
theorem ynE (z:Int) (f:Bool) (w:World) (h76:Hid (∀ W,Below w.heap.size w W→Calls Tryz.prog 93 #[.string ⟨#[]⟩,.int .i64 64] W fun e w'=>e=.returned (.tuple #[.int .i64 z,.bool f])∧Below W.heap.size W w')):Calls Tryz.prog 46 #[.int .i64 4,.string ⟨#[]⟩] w fun e w'=>e=.returned (.bool true)∧Below w.heap.size w w':=by
 go_enter Tryz.func46,Tryz.ntmps46
 go_wp2_with fail
 refine (h76.out _ (Below.refl _ _)).mono ?_
 rintro e w1 ⟨rfl,hb⟩
 have B1:=yA (hb)
 clear hb
 go_wp2_with fail
 go_ret
 exact ⟨rfl,B1.out⟩
theorem ylL (l:List UInt8) (_hl:¬ l=[]) (hl2:l.isEmpty=false) (z:Int) (f:Bool) (w:World) (h76:Hid (∀ W,Below w.heap.size w W→Calls Tryz.prog 93 #[.string ⟨l.toArray⟩,.int .i64 64] W fun e w'=>e=.returned (.tuple #[.int .i64 z,.bool f])∧Below W.heap.size W w')):Calls Tryz.prog 46 #[.int .i64 4,.string ⟨l.toArray⟩] w fun e w'=>e=.returned (.bool f)∧Below w.heap.size w w':=by
 go_enter Tryz.func46,Tryz.ntmps46
 go_wp2_with fail
 refine (h76.out _ (Below.refl _ _)).mono ?_
 rintro e w1 ⟨rfl,hb⟩
 have B1:=yA (hb)
 clear hb
 go_wp2_with fail
 go_ret
 exact ⟨rfl,B1.out⟩
theorem ynF (w:World):Calls Tryz.prog 46 #[.int .i64 5,.string ⟨#[]⟩] w fun e w'=>e=.returned (.bool true)∧Below w.heap.size w w':=by
 go_enter Tryz.func46,Tryz.ntmps46
 go_wp2_with fail
 go_ret
 exact ⟨rfl,Below.refl _ _⟩
theorem ylM (l:List UInt8) (_hl:¬ l=[]) (hl2:l.isEmpty=false) (f:Bool) (w:World) (h19:Hid (∀ W,Below w.heap.size w W→Calls Tryz.prog 92 #[.string ⟨l.toArray⟩] W fun e w'=>e=.returned (.bool f)∧Below W.heap.size W w')):Calls Tryz.prog 46 #[.int .i64 5,.string ⟨l.toArray⟩] w fun e w'=>e=.returned (.bool f)∧Below w.heap.size w w':=by
 go_enter Tryz.func46,Tryz.ntmps46
 go_wp2_with fail
 refine (h19.out _ (Below.refl _ _)).mono ?_
 rintro e w1 ⟨rfl,hb⟩
 have B1:=yA (hb)
 clear hb
 go_wp2_with fail
 go_ret
 exact ⟨rfl,B1.out⟩
theorem ysw (x:ByteArray) (k:Int) (h1:¬ k=1) (h2:¬ k=2) (h3:¬ k=3) (h4:¬ k=4) (h5:¬ k=5) (w:World):Calls Tryz.prog 46 #[.int .i64 k,.string x] w fun e w'=>e=.returned (.bool false)∧Below w.heap.size w w':=by
 go_enter Tryz.func46,Tryz.ntmps46
 go_wp2_with fail
 go_ret
 exact ⟨rfl,Below.refl _ _⟩
theorem ygM (k:Int) (l:List UInt8) (w:World) (h:Env w):Calls Tryz.prog 46 #[.int .i64 k,.string ⟨l.toArray⟩] w fun e w'=>e=.returned (.bool (uB k l))∧Below w.heap.size w w':=by
 have hi:∀ (B:Nat),B=8∨B=16∨B=32∨B=64→∀ W,Below w.heap.size w W→Calls Tryz.prog 93 #[.string ⟨l.toArray⟩,.int .i64 (B:Int)] W (ybE (yax B l) W):=fun B hB W hW=>ylH B hB ⟨l.toArray⟩ W (h.below hW)
 have hv:∀ W,Below w.heap.size w W→Calls Tryz.prog 92 #[.string ⟨l.toArray⟩] W fun e w'=>e=.returned (.bool (num l).isSome)∧Below W.heap.size W w':=fun W hW=>by
  have h:=yik ⟨l.toArray⟩ W (h.below hW).tab
  rw [yrA] at h
  exact h
 unfold uB
 by_cases h1:k=1
 ·subst h1
  simp only [if_true,Int.reduceEq,if_false]
  by_cases hl:l=[]
  ·subst hl;exact ynB _ _ w (yA (hi 8 (by omega)))
  ·have hl2:l.isEmpty=false:=by simpa using hl
   rw [hl2,Bool.false_or]
   exact ylI l hl hl2 _ _ w (yA (hi 8 (by omega)))
 by_cases h2:k=2
 ·subst h2
  simp only [if_true,Int.reduceEq,if_false]
  by_cases hl:l=[]
  ·subst hl;exact ynC _ _ w (yA (hi 16 (by omega)))
  ·have hl2:l.isEmpty=false:=by simpa using hl
   rw [hl2,Bool.false_or]
   exact ylJ l hl hl2 _ _ w (yA (hi 16 (by omega)))
 by_cases h3:k=3
 ·subst h3
  simp only [if_true,Int.reduceEq,if_false]
  by_cases hl:l=[]
  ·subst hl;exact ynD _ _ w (yA (hi 32 (by omega)))
  ·have hl2:l.isEmpty=false:=by simpa using hl
   rw [hl2,Bool.false_or]
   exact ylK l hl hl2 _ _ w (yA (hi 32 (by omega)))
 by_cases h4:k=4
 ·subst h4
  simp only [if_true,Int.reduceEq,if_false]
  by_cases hl:l=[]
  ·subst hl;exact ynE _ _ w (yA (hi 64 (by omega)))
  ·have hl2:l.isEmpty=false:=by simpa using hl
   rw [hl2,Bool.false_or]
   exact ylL l hl hl2 _ _ w (yA (hi 64 (by omega)))
 by_cases h5:k=5
 ·subst h5
  simp only [if_true,Int.reduceEq,if_false]
  by_cases hl:l=[]
  ·subst hl;exact ynF w
  ·have hl2:l.isEmpty=false:=by simpa using hl
   rw [hl2,Bool.false_or]
   exact ylM l hl hl2 _ w (yA hv)
 simp only [h1,h2,h3,h4,h5,if_false]
 exact ysw _ k h1 h2 h3 h4 h5 w
end Go.Proofs.YtgepehlpjpccaaaGreatDoor
set_option maxRecDepth 100000
namespace Go.Proofs.YtgepehlpjpccaaaGreatDoor
open Go.RowKit
open Go.Lib
theorem yda (n:Nat) (hn:(n:Int)≤4096) (w:World):Calls Tryz.prog 59 #[.int .i64 (n:Int)] w fun e w'=>e=.returned (.bool true)∧w=w':=by
 go_enter Tryz.func59,Tryz.ntmps59
 go_wp2_with fail
 go_ret
 exact ⟨rfl,rfl⟩
theorem ycF (n:Nat) (hn:(n:Int)≤4096) (w:World):Calls Tryz.prog 75 #[.int .i64 (n:Int)] w fun e w'=>e=.returned (.int .i64 (((n:Int)+7)/8))∧w=w':=by
 go_enter Tryz.func75,Tryz.ntmps75
 go_wp2_with fail
 go_ret
 exact ⟨rfl,rfl⟩
def Ss (w:World) (p:Option Addr) (xs:List (List UInt8)):Prop:=xs.length=0∨∃ b off,p=some ⟨b,off,none⟩∧b<w.heap.size∧∀ j,j<xs.length→w.cell? ⟨b,off+j,none⟩=some (.string ⟨(xs.getD j []).toArray⟩)
theorem Ss.below {w w':World} {p:Option Addr} {xs:List (List UInt8)} (h:Ss w p xs) (hb:Below w.heap.size w w'):Ss w' p xs:=by
 rcases h with h0|⟨b,off,hp,hlt,hc⟩
 ·exact .inl h0
 ·exact .inr ⟨b,off,hp,Nat.lt_of_lt_of_le hlt hb.size,fun j hj=>(hb.cell (p:=⟨b,off+j,none⟩) hlt).trans (hc j hj)⟩
theorem Ss.at {w:World} {p:Option Addr} {xs:List (List UInt8)} (h:Ss w p xs) {k:Nat} (hk:k<xs.length):∃ (b off:Nat) (x:List UInt8),p=some ⟨b,off,none⟩∧b<w.heap.size∧w.cell? ⟨b,off+k,none⟩=some (.string ⟨x.toArray⟩)∧Hid (xs.getD k []=x):=by
 rcases h with h0|⟨b,off,h1,h2,h3⟩
 ·omega
 ·exact ⟨b,off,_,h1,h2,h3 k hk,rfl⟩
end Go.Proofs.YtgepehlpjpccaaaGreatDoor
set_option maxRecDepth 100000
set_option maxHeartbeats 800000
namespace Go.Proofs.YtgepehlpjpccaaaGreatDoor
end Go.Proofs.YtgepehlpjpccaaaGreatDoor
namespace Big
theorem yU.of_last {B:Nat} {l:List Nat} (h:yP B l) (k:Nat) (hk:l.length=k+1) (h0:l.getD k 0≠0):yU B l:=by
 refine ⟨h,?_⟩
 rw [List.getLast?_eq_getElem?,hk,Nat.add_sub_cancel]
 rw [List.getD_eq_getElem?_getD] at h0
 intro e;rw [e] at h0;simp at h0
theorem yU.zero_iff {B:Nat} (hB:0<B) {l:List Nat} (h:yU B l):val B l=0↔l=[]:=by
 constructor
 ·intro h0
  cases l with
  | nil=>rfl
  | cons x t =>
   have:=h.pow_le t.length (by simp)
   have hp:0<B^t.length:=Nat.pow_pos hB
   omega
 ·rintro rfl;rfl
end Big
namespace Go.Proofs.YtgepehlpjpccaaaGreatDoor
open Go.RowKit
end Go.Proofs.YtgepehlpjpccaaaGreatDoor
namespace Go.Proofs.YtgepehlpjpccaaaGreatDoor
open Go.RowKit Big
end Go.Proofs.YtgepehlpjpccaaaGreatDoor
