/- The program's integer, Int and FromInt. -/
import Derived.Test.YtlcpcpmlfegejaaGreatDoorTA
import Derived.Test.YtlcpcpmlfegejaaGreatDoorShelfB
import Derived.WalkKit
import Derived.WalkSpells
import Derived.WalkLawsBesides
import Derived.Lib.Hide
import Derived.IntWalk
set_option maxHeartbeats 3200000
set_option maxRecDepth 100000
namespace Go.Proofs.YtlcpcpmlfegejaaGreatDoor
open Go.RowKit Big
open Go.Lib
structure Env (w:World):Prop where
 tab:Tab w
 syn:∃ ev,w.cell? ⟨1,0,none⟩=some ev∧(ev=.nilIface∨∃ te pe,ev=.iface te pe)
 rng:∃ ev,w.cell? ⟨2,0,none⟩=some ev∧(ev=.nilIface∨∃ te pe,ev=.iface te pe)
theorem Env.below {w w':World} (h:Env w) (hb:Below w.heap.size w w'):Env w':=by
 obtain ⟨e1,h1,k1⟩:=h.syn
 obtain ⟨e2,h2,k2⟩:=h.rng
 refine ⟨h.tab.below hb,⟨e1,?_,k1⟩,⟨e2,?_,k2⟩⟩
 ·have hG:1<w.heap.size:=Lib.lt_of_cell h1
  exact (hb.cell (show (⟨1,0,none⟩:Addr).block<w.heap.size from hG)).trans h1
 ·have hG:2<w.heap.size:=Lib.lt_of_cell h2
  exact (hb.cell (show (⟨2,0,none⟩:Addr).block<w.heap.size from hG)).trans h2
theorem num_len {l:List UInt8} {q:Rat} (h:num l=some q):l.length≤82:=by
 unfold num readQ at h
 split at h
 ·cases h
 ·omega
theorem num_is (l:List UInt8):isNum l=(num l).isSome:=by
 unfold num isNum
 cases readQ l<;>rfl
def PiPost (o:Option Int) (w:World) (e:Ending) (w':World):Prop:=Below w.heap.size w w'∧match o with
 | some v=>e=.returned (.tuple #[.int .i64 v,.nilIface])
 | none=>∃ z T N,e=.returned (.tuple #[.int .i64 z,.iface T (.pointer (some ⟨N,0,none⟩))])
theorem pi_world {w w':World} (h:w'=w∨∃ t,w'=Lib.bytesWorld w 5 t):Below w.heap.size w w':=by
 rcases h with rfl|⟨t,rfl⟩
 ·exact Below.refl _ _
 ·exact Lib.bytesWorld_below _ _ _
theorem parse_is (B:Nat) (hB:B=8∨B=16∨B=32∨B=64) (x:ByteArray) (q:Rat) (hx:num x.data.toList=some q) (w:World) (h:Env w):Calls Tryz.prog 167 #[.string x,.int .i64 10,.int .i64 (B:Int)] w (PiPost (intT B x.data.toList) w):=by
 have hl:=num_len hx
 have hs:x.size≤82:=by rw [← ByteArray.size_data];simpa using hl
 obtain ⟨e1,h1,k1⟩:=h.syn
 obtain ⟨e2,h2,k2⟩:=h.rng
 rcases hB with rfl|rfl|rfl|rfl
 ·have hp:=pi_num (B:=8) (by decide) (by decide) hx
  unfold PiPost
  cases hi:intT 8 x.data.toList with
  | some v =>
   rw [hi] at hp
   exact (Tryz.strconv_ParseInt_10_at8_ok x (by omega) v hp w).mono fun e w' h=>⟨pi_world h.2,h.1⟩
  | none =>
   rw [hi] at hp
   rcases hp with hp|hp
   ·exact (Tryz.strconv_ParseInt_10_at8_syntax x (by omega) hp e1 w h1 k1).mono fun e w' ⟨N,h,_,_,hb⟩=>⟨hb,_,_,N,h⟩
   ·exact (Tryz.strconv_ParseInt_10_at8_range x (by omega) hp e2 w h2 k2).mono fun e w' ⟨N,h,_,_,hb⟩=>⟨hb,_,_,N,h⟩
 ·have hp:=pi_num (B:=16) (by decide) (by decide) hx
  unfold PiPost
  cases hi:intT 16 x.data.toList with
  | some v =>
   rw [hi] at hp
   exact (Tryz.strconv_ParseInt_10_at16_ok x (by omega) v hp w).mono fun e w' h=>⟨pi_world h.2,h.1⟩
  | none =>
   rw [hi] at hp
   rcases hp with hp|hp
   ·exact (Tryz.strconv_ParseInt_10_at16_syntax x (by omega) hp e1 w h1 k1).mono fun e w' ⟨N,h,_,_,hb⟩=>⟨hb,_,_,N,h⟩
   ·exact (Tryz.strconv_ParseInt_10_at16_range x (by omega) hp e2 w h2 k2).mono fun e w' ⟨N,h,_,_,hb⟩=>⟨hb,_,_,N,h⟩
 ·have hp:=pi_num (B:=32) (by decide) (by decide) hx
  unfold PiPost
  cases hi:intT 32 x.data.toList with
  | some v =>
   rw [hi] at hp
   exact (Tryz.strconv_ParseInt_10_at32_ok x (by omega) v hp w).mono fun e w' h=>⟨pi_world h.2,h.1⟩
  | none =>
   rw [hi] at hp
   rcases hp with hp|hp
   ·exact (Tryz.strconv_ParseInt_10_at32_syntax x (by omega) hp e1 w h1 k1).mono fun e w' ⟨N,h,_,_,hb⟩=>⟨hb,_,_,N,h⟩
   ·exact (Tryz.strconv_ParseInt_10_at32_range x (by omega) hp e2 w h2 k2).mono fun e w' ⟨N,h,_,_,hb⟩=>⟨hb,_,_,N,h⟩
 ·have hp:=pi_num (B:=64) (by decide) (by decide) hx
  unfold PiPost
  cases hi:intT 64 x.data.toList with
  | some v =>
   rw [hi] at hp
   exact (Tryz.strconv_ParseInt_10_at64_ok x (by omega) v hp w).mono fun e w' h=>⟨pi_world h.2,h.1⟩
  | none =>
   rw [hi] at hp
   rcases hp with hp|hp
   ·exact (Tryz.strconv_ParseInt_10_at64_syntax x (by omega) hp e1 w h1 k1).mono fun e w' ⟨N,h,_,_,hb⟩=>⟨hb,_,_,N,h⟩
   ·exact (Tryz.strconv_ParseInt_10_at64_range x (by omega) hp e2 w h2 k2).mono fun e w' ⟨N,h,_,_,hb⟩=>⟨hb,_,_,N,h⟩
def IntPost (o:Option Int) (w:World) (e:Ending) (w':World):Prop:=e=.returned (.tuple #[.int .i64 (o.getD 0),.bool o.isSome])∧Below w.heap.size w w'
theorem integer_no (x:ByteArray) (B:Int) (w:World) (hv:Hid (Calls Tryz.prog 136 #[.string x] w fun e w'=>e=.returned (.bool false)∧Below w.heap.size w w')):Calls Tryz.prog 137 #[.string x,.int .i64 B] w (IntPost none w):=by
 unfold IntPost
 go_enter Tryz.func137,Tryz.ntmps137
 go_wp2_with fail
 refine hv.out.mono ?_
 rintro e w1 ⟨rfl,hb1⟩
 have HB:=hiD hb1
 clear hb1
 go_wp2_with fail
 go_ret2
 exact ⟨rfl,HB.out⟩
theorem integer_bad (x:ByteArray) (B:Int) (w:World) (hv:Hid (Calls Tryz.prog 136 #[.string x] w fun e w'=>e=.returned (.bool true)∧Below w.heap.size w w'))
  (hp:Hid (∀ W,Below w.heap.size w W→Calls Tryz.prog 167 #[.string x,.int .i64 10,.int .i64 B] W fun e w'=>Below W.heap.size W w'∧∃ z T N,e=.returned (.tuple #[.int .i64 z,.iface T (.pointer (some ⟨N,0,none⟩))]))):Calls Tryz.prog 137 #[.string x,.int .i64 B] w (IntPost none w):=by
 unfold IntPost
 go_enter Tryz.func137,Tryz.ntmps137
 go_wp2_with fail
 refine hv.out.mono ?_
 rintro e w1 ⟨rfl,hb1⟩
 have HB:=hiD hb1
 clear hb1
 go_wp2_with fail
 refine (hp.out _ HB.out).mono ?_
 rintro e w2 ⟨hb2,z,T,n,rfl⟩
 have HB2:=hiD (HB.out.trans (hb2.mono HB.out.size))
 clear hb2
 go_wp2_with fail
 go_ret2
 exact ⟨rfl,HB2.out⟩
theorem integer_yes (x:ByteArray) (B v:Int) (w:World) (hv:Hid (Calls Tryz.prog 136 #[.string x] w fun e w'=>e=.returned (.bool true)∧Below w.heap.size w w'))
  (hp:Hid (∀ W,Below w.heap.size w W→Calls Tryz.prog 167 #[.string x,.int .i64 10,.int .i64 B] W fun e w'=>Below W.heap.size W w'∧e=.returned (.tuple #[.int .i64 v,.nilIface]))):Calls Tryz.prog 137 #[.string x,.int .i64 B] w (IntPost (some v) w):=by
 unfold IntPost
 go_enter Tryz.func137,Tryz.ntmps137
 go_wp2_with fail
 refine hv.out.mono ?_
 rintro e w1 ⟨rfl,hb1⟩
 have HB:=hiD hb1
 clear hb1
 go_wp2_with fail
 refine (hp.out _ HB.out).mono ?_
 rintro e w2 ⟨hb2,rfl⟩
 have HB2:=hiD (HB.out.trans (hb2.mono HB.out.size))
 clear hb2
 go_wp2_with fail
 go_ret2
 exact ⟨rfl,HB2.out⟩
theorem integer_any (B:Nat) (hB:B=8∨B=16∨B=32∨B=64) (x:ByteArray) (w:World) (h:Env w):Calls Tryz.prog 137 #[.string x,.int .i64 (B:Int)] w (IntPost (intT B x.data.toList) w):=by
 have hv:=valid_any x w h.tab
 rw [num_is] at hv
 cases hx:num x.data.toList with
 | none =>
  rw [hx] at hv
  have e:intT B x.data.toList=none:=by unfold intT;rw [hx]
  rw [e]
  exact integer_no x B w (hiD hv)
 | some q =>
  rw [hx] at hv
  have hp:=fun W (hW:Below w.heap.size w W)=>parse_is B hB x q hx W (h.below hW)
  unfold PiPost at hp
  cases hi:intT B x.data.toList with
  | none=>rw [hi] at hp;exact integer_bad x B w (hiD hv) (hiD hp)
  | some v=>rw [hi] at hp;exact integer_yes x B v w (hiD hv) (hiD hp)
end Go.Proofs.YtlcpcpmlfegejaaGreatDoor
set_option maxHeartbeats 3200000
set_option maxRecDepth 100000
namespace Go.Proofs.YtlcpcpmlfegejaaGreatDoor
open Go.RowKit Big
open Go.Lib
def fitT (kind:Int) (l:List UInt8):Bool :=
 if kind=1 then l.isEmpty || (intT 8 l).isSome else if kind=2 then l.isEmpty || (intT 16 l).isSome else if kind=3 then l.isEmpty || (intT 32 l).isSome
 else if kind=4 then l.isEmpty || (intT 64 l).isSome else if kind=5 then l.isEmpty || (num l).isSome else false
theorem pfits1_nil (z:Int) (f:Bool) (w:World) (h76:Hid (∀ W,Below w.heap.size w W→Calls Tryz.prog 137 #[.string ⟨#[]⟩,.int .i64 8] W fun e w'=>e=.returned (.tuple #[.int .i64 z,.bool f])∧Below W.heap.size W w')):Calls Tryz.prog 99 #[.int .i64 1,.string ⟨#[]⟩] w fun e w'=>e=.returned (.bool true)∧Below w.heap.size w w':=by
 go_enter Tryz.func99,Tryz.ntmps99
 go_wp2_with fail
 refine (h76.out _ (Below.refl _ _)).mono ?_
 rintro e w1 ⟨rfl,hb⟩
 have B1:=hiD (hb)
 clear hb
 go_wp2_with fail
 go_ret
 exact ⟨rfl,B1.out⟩
theorem pfits1_some (l:List UInt8) (_hl:¬ l=[]) (hl2:l.isEmpty=false) (z:Int) (f:Bool) (w:World) (h76:Hid (∀ W,Below w.heap.size w W→Calls Tryz.prog 137 #[.string ⟨l.toArray⟩,.int .i64 8] W fun e w'=>e=.returned (.tuple #[.int .i64 z,.bool f])∧Below W.heap.size W w')):Calls Tryz.prog 99 #[.int .i64 1,.string ⟨l.toArray⟩] w fun e w'=>e=.returned (.bool f)∧Below w.heap.size w w':=by
 go_enter Tryz.func99,Tryz.ntmps99
 go_wp2_with fail
 refine (h76.out _ (Below.refl _ _)).mono ?_
 rintro e w1 ⟨rfl,hb⟩
 have B1:=hiD (hb)
 clear hb
 go_wp2_with fail
 go_ret
 exact ⟨rfl,B1.out⟩
theorem pfits2_nil (z:Int) (f:Bool) (w:World) (h76:Hid (∀ W,Below w.heap.size w W→Calls Tryz.prog 137 #[.string ⟨#[]⟩,.int .i64 16] W fun e w'=>e=.returned (.tuple #[.int .i64 z,.bool f])∧Below W.heap.size W w')):Calls Tryz.prog 99 #[.int .i64 2,.string ⟨#[]⟩] w fun e w'=>e=.returned (.bool true)∧Below w.heap.size w w':=by
 go_enter Tryz.func99,Tryz.ntmps99
 go_wp2_with fail
 refine (h76.out _ (Below.refl _ _)).mono ?_
 rintro e w1 ⟨rfl,hb⟩
 have B1:=hiD (hb)
 clear hb
 go_wp2_with fail
 go_ret
 exact ⟨rfl,B1.out⟩
theorem pfits2_some (l:List UInt8) (_hl:¬ l=[]) (hl2:l.isEmpty=false) (z:Int) (f:Bool) (w:World) (h76:Hid (∀ W,Below w.heap.size w W→Calls Tryz.prog 137 #[.string ⟨l.toArray⟩,.int .i64 16] W fun e w'=>e=.returned (.tuple #[.int .i64 z,.bool f])∧Below W.heap.size W w')):Calls Tryz.prog 99 #[.int .i64 2,.string ⟨l.toArray⟩] w fun e w'=>e=.returned (.bool f)∧Below w.heap.size w w':=by
 go_enter Tryz.func99,Tryz.ntmps99
 go_wp2_with fail
 refine (h76.out _ (Below.refl _ _)).mono ?_
 rintro e w1 ⟨rfl,hb⟩
 have B1:=hiD (hb)
 clear hb
 go_wp2_with fail
 go_ret
 exact ⟨rfl,B1.out⟩
theorem pfits3_nil (z:Int) (f:Bool) (w:World) (h76:Hid (∀ W,Below w.heap.size w W→Calls Tryz.prog 137 #[.string ⟨#[]⟩,.int .i64 32] W fun e w'=>e=.returned (.tuple #[.int .i64 z,.bool f])∧Below W.heap.size W w')):Calls Tryz.prog 99 #[.int .i64 3,.string ⟨#[]⟩] w fun e w'=>e=.returned (.bool true)∧Below w.heap.size w w':=by
 go_enter Tryz.func99,Tryz.ntmps99
 go_wp2_with fail
 refine (h76.out _ (Below.refl _ _)).mono ?_
 rintro e w1 ⟨rfl,hb⟩
 have B1:=hiD (hb)
 clear hb
 go_wp2_with fail
 go_ret
 exact ⟨rfl,B1.out⟩
theorem pfits3_some (l:List UInt8) (_hl:¬ l=[]) (hl2:l.isEmpty=false) (z:Int) (f:Bool) (w:World) (h76:Hid (∀ W,Below w.heap.size w W→Calls Tryz.prog 137 #[.string ⟨l.toArray⟩,.int .i64 32] W fun e w'=>e=.returned (.tuple #[.int .i64 z,.bool f])∧Below W.heap.size W w')):Calls Tryz.prog 99 #[.int .i64 3,.string ⟨l.toArray⟩] w fun e w'=>e=.returned (.bool f)∧Below w.heap.size w w':=by
 go_enter Tryz.func99,Tryz.ntmps99
 go_wp2_with fail
 refine (h76.out _ (Below.refl _ _)).mono ?_
 rintro e w1 ⟨rfl,hb⟩
 have B1:=hiD (hb)
 clear hb
 go_wp2_with fail
 go_ret
 exact ⟨rfl,B1.out⟩
theorem pfits4_nil (z:Int) (f:Bool) (w:World) (h76:Hid (∀ W,Below w.heap.size w W→Calls Tryz.prog 137 #[.string ⟨#[]⟩,.int .i64 64] W fun e w'=>e=.returned (.tuple #[.int .i64 z,.bool f])∧Below W.heap.size W w')):Calls Tryz.prog 99 #[.int .i64 4,.string ⟨#[]⟩] w fun e w'=>e=.returned (.bool true)∧Below w.heap.size w w':=by
 go_enter Tryz.func99,Tryz.ntmps99
 go_wp2_with fail
 refine (h76.out _ (Below.refl _ _)).mono ?_
 rintro e w1 ⟨rfl,hb⟩
 have B1:=hiD (hb)
 clear hb
 go_wp2_with fail
 go_ret
 exact ⟨rfl,B1.out⟩
theorem pfits4_some (l:List UInt8) (_hl:¬ l=[]) (hl2:l.isEmpty=false) (z:Int) (f:Bool) (w:World) (h76:Hid (∀ W,Below w.heap.size w W→Calls Tryz.prog 137 #[.string ⟨l.toArray⟩,.int .i64 64] W fun e w'=>e=.returned (.tuple #[.int .i64 z,.bool f])∧Below W.heap.size W w')):Calls Tryz.prog 99 #[.int .i64 4,.string ⟨l.toArray⟩] w fun e w'=>e=.returned (.bool f)∧Below w.heap.size w w':=by
 go_enter Tryz.func99,Tryz.ntmps99
 go_wp2_with fail
 refine (h76.out _ (Below.refl _ _)).mono ?_
 rintro e w1 ⟨rfl,hb⟩
 have B1:=hiD (hb)
 clear hb
 go_wp2_with fail
 go_ret
 exact ⟨rfl,B1.out⟩
theorem pfits5_nil (w:World):Calls Tryz.prog 99 #[.int .i64 5,.string ⟨#[]⟩] w fun e w'=>e=.returned (.bool true)∧Below w.heap.size w w':=by
 go_enter Tryz.func99,Tryz.ntmps99
 go_wp2_with fail
 go_ret
 exact ⟨rfl,Below.refl _ _⟩
theorem pfits5_some (l:List UInt8) (_hl:¬ l=[]) (hl2:l.isEmpty=false) (f:Bool) (w:World) (h19:Hid (∀ W,Below w.heap.size w W→Calls Tryz.prog 136 #[.string ⟨l.toArray⟩] W fun e w'=>e=.returned (.bool f)∧Below W.heap.size W w')):Calls Tryz.prog 99 #[.int .i64 5,.string ⟨l.toArray⟩] w fun e w'=>e=.returned (.bool f)∧Below w.heap.size w w':=by
 go_enter Tryz.func99,Tryz.ntmps99
 go_wp2_with fail
 refine (h19.out _ (Below.refl _ _)).mono ?_
 rintro e w1 ⟨rfl,hb⟩
 have B1:=hiD (hb)
 clear hb
 go_wp2_with fail
 go_ret
 exact ⟨rfl,B1.out⟩
theorem pfits_no (x:ByteArray) (k:Int) (h1:¬ k=1) (h2:¬ k=2) (h3:¬ k=3) (h4:¬ k=4) (h5:¬ k=5) (w:World):Calls Tryz.prog 99 #[.int .i64 k,.string x] w fun e w'=>e=.returned (.bool false)∧Below w.heap.size w w':=by
 go_enter Tryz.func99,Tryz.ntmps99
 go_wp2_with fail
 go_ret
 exact ⟨rfl,Below.refl _ _⟩
theorem pfits_list (k:Int) (l:List UInt8) (w:World) (h:Env w):Calls Tryz.prog 99 #[.int .i64 k,.string ⟨l.toArray⟩] w fun e w'=>e=.returned (.bool (fitT k l))∧Below w.heap.size w w':=by
 have hi:∀ (B:Nat),B=8∨B=16∨B=32∨B=64→∀ W,Below w.heap.size w W→Calls Tryz.prog 137 #[.string ⟨l.toArray⟩,.int .i64 (B:Int)] W (IntPost (intT B l) W):=fun B hB W hW=>integer_any B hB ⟨l.toArray⟩ W (h.below hW)
 have hv:∀ W,Below w.heap.size w W→Calls Tryz.prog 136 #[.string ⟨l.toArray⟩] W fun e w'=>e=.returned (.bool (num l).isSome)∧Below W.heap.size W w':=fun W hW=>by
  have h:=valid_any ⟨l.toArray⟩ W (h.below hW).tab
  rw [num_is] at h
  exact h
 unfold fitT
 by_cases h1:k=1
 ·subst h1
  simp only [if_true,Int.reduceEq,if_false]
  by_cases hl:l=[]
  ·subst hl;exact pfits1_nil _ _ w (hiD (hi 8 (by omega)))
  ·have hl2:l.isEmpty=false:=by simpa using hl
   rw [hl2,Bool.false_or]
   exact pfits1_some l hl hl2 _ _ w (hiD (hi 8 (by omega)))
 by_cases h2:k=2
 ·subst h2
  simp only [if_true,Int.reduceEq,if_false]
  by_cases hl:l=[]
  ·subst hl;exact pfits2_nil _ _ w (hiD (hi 16 (by omega)))
  ·have hl2:l.isEmpty=false:=by simpa using hl
   rw [hl2,Bool.false_or]
   exact pfits2_some l hl hl2 _ _ w (hiD (hi 16 (by omega)))
 by_cases h3:k=3
 ·subst h3
  simp only [if_true,Int.reduceEq,if_false]
  by_cases hl:l=[]
  ·subst hl;exact pfits3_nil _ _ w (hiD (hi 32 (by omega)))
  ·have hl2:l.isEmpty=false:=by simpa using hl
   rw [hl2,Bool.false_or]
   exact pfits3_some l hl hl2 _ _ w (hiD (hi 32 (by omega)))
 by_cases h4:k=4
 ·subst h4
  simp only [if_true,Int.reduceEq,if_false]
  by_cases hl:l=[]
  ·subst hl;exact pfits4_nil _ _ w (hiD (hi 64 (by omega)))
  ·have hl2:l.isEmpty=false:=by simpa using hl
   rw [hl2,Bool.false_or]
   exact pfits4_some l hl hl2 _ _ w (hiD (hi 64 (by omega)))
 by_cases h5:k=5
 ·subst h5
  simp only [if_true,Int.reduceEq,if_false]
  by_cases hl:l=[]
  ·subst hl;exact pfits5_nil w
  ·have hl2:l.isEmpty=false:=by simpa using hl
   rw [hl2,Bool.false_or]
   exact pfits5_some l hl hl2 _ w (hiD hv)
 simp only [h1,h2,h3,h4,h5,if_false]
 exact pfits_no _ k h1 h2 h3 h4 h5 w
end Go.Proofs.YtlcpcpmlfegejaaGreatDoor
set_option maxHeartbeats 1000000
set_option maxRecDepth 100000
namespace Go.Proofs.YtlcpcpmlfegejaaGreatDoor.Arr
open Go.RowKit
open Go.Lib
structure Rd (w:World) (p:Option Addr) (l:List Int):Prop where
 wf:∀ z ∈ l,-9223372036854775808≤z∧z≤9223372036854775807
 cell:l.length=0∨∃ b off,p=some ⟨b,off,none⟩∧b<w.heap.size∧∀ j,j<l.length→w.cell? ⟨b,off+j,none⟩=some (.int .i64 (l.getD j 0))
theorem Rd.below {w w':World} {p:Option Addr} {l:List Int} (h:Rd w p l) (hb:Below w.heap.size w w'):Rd w' p l:=⟨h.wf,h.cell.imp id fun ⟨b,off,h1,h2,h3⟩ =>
 ⟨b,off,h1,Nat.lt_of_lt_of_le h2 hb.size,fun j hj=>(hb.cell (p:=⟨b,off+j,none⟩) h2).trans (h3 j hj)⟩⟩
theorem Rd.at {w:World} {p:Option Addr} {l:List Int} (h:Rd w p l) {k:Nat} (hk:k<l.length):∃ b off z,p=some ⟨b,off,none⟩∧b<w.heap.size∧w.cell? ⟨b,off+k,none⟩=some (.int .i64 z)∧Hid (z=l.getD k 0)∧-9223372036854775808≤z∧z≤9223372036854775807:=by
 rcases h.cell with h0|⟨b,off,h1,h2,h3⟩
 ·omega
 ·refine ⟨b,off,_,h1,h2,h3 k hk,Lib.hid rfl,?_⟩
  have hm:l.getD k 0 ∈ l:=by rw [List.getD_eq_getElem?_getD,List.getElem?_eq_getElem hk];exact List.getElem_mem hk
  exact h.wf _ hm
def RdN (w:World) (p:Option Addr) (l:List Nat):Prop:=Rd w p (l.map Int.ofNat)
theorem RdN.below {w w':World} {p:Option Addr} {l:List Nat} (h:RdN w p l) (hb:Below w.heap.size w w'):RdN w' p l:=Rd.below h hb
theorem RdN.at {w:World} {p:Option Addr} {l:List Nat} (h:RdN w p l) {k:Nat} (hk:k<l.length):∃ b off x,p=some ⟨b,off,none⟩∧b<w.heap.size∧w.cell? ⟨b,off+k,none⟩=some (.int .i64 ((x:Nat):Int))∧Hid (x=l.getD k 0):=by
 obtain ⟨b,off,z,h1,h2,h3,h4,-⟩:=Rd.at h (k:=k) (by simpa using hk)
 refine ⟨b,off,l.getD k 0,h1,h2,?_,Lib.hid rfl⟩
 rw [h3,h4.out,List.getD_eq_getElem?_getD,List.getElem?_map,List.getD_eq_getElem?_getD,List.getElem?_eq_getElem hk]
 rfl
def prod (l:List Nat):Nat:=l.foldl (·*·) 1
theorem prod_take {l:List Nat} {i:Nat} (h:i<l.length):prod (l.take (i+1))=prod (l.take i)*l.getD i 0:=by
 rw [List.take_succ_eq_append_getElem h,prod,List.foldl_append]
 simp [prod,List.getD_eq_getElem?_getD,List.getElem?_eq_getElem h]
theorem prod_le {l:List Nat} (hb:∀ x ∈ l,x≤1024):∀ i,i≤l.length→prod (l.take i)≤1024^i
 | 0,_=>by simp [prod]
 | i+1,h=>by
  have h1:=prod_le hb i (by omega)
  have h2:l.getD i 0≤1024:=by
   rw [List.getD_eq_getElem?_getD,List.getElem?_eq_getElem (by omega)]
   exact hb _ (List.getElem_mem _)
  rw [prod_take (by omega),Nat.pow_succ]
  exact Nat.mul_le_mul h1 h2
theorem pow_small {i:Nat} (h:i≤4):1024^i≤1099511627776:=by
 have:=Nat.pow_le_pow_right (n:=1024) (by decide) h
 exact Nat.le_trans this (by decide)
theorem product_any (p:Option Addr) (c:Nat) (l:List Nat) (w:World) (hl:l.length≤4) (hb:∀ x ∈ l,x≤1024) (h:RdN w p l) :
  Calls Tryz.prog 80 #[.slice p l.length c] w fun e w'=>w=w'∧e=.returned (.int .i64 ((prod l:Nat):Int)):=by
 have H:=Lib.hid h
 have HB:=Lib.hid hb
 obtain ⟨n,HN⟩:∃ n,Hid (n=l.length):=⟨_,rfl⟩
 rw [← HN.out] at hl ⊢
 have hni:(n:Int)≤4:=by omega
 clear h hb
 go_enter Tryz.func80,Tryz.ntmps80
 go_wp2_with fail
 go_loop [3,8] (fun pv iv=>∃ i a:Nat,i≤n∧iv=.int .i64 i∧pv=.int .i64 a∧Hid (a=prod (l.take i))) (fun _ iv=>n-(Go.RowKit.intOf iv).toNat)
 case atStart=>exact ⟨0,1,Nat.zero_le _,rfl,rfl,Lib.hid (by simp [prod])⟩
 case round =>
  obtain ⟨i,a,hi,rfl,rfl,HA⟩:=hrel
  have ii:(i:Int)≤(n:Int):=by omega
  by_cases hlt:i<n
  ·have ilt:(i:Int)<(n:Int):=by omega
   obtain ⟨b,off,x,rfl,-,hcell,HX⟩:=H.out.at (k:=i) (by rw [← HN.out];exact hlt)
   obtain ⟨m,HM⟩:∃ m,Hid (m=a*x):=⟨_,rfl⟩
   have hst:Hid (m=prod (l.take (i+1))):=Lib.hid (by rw [HM.out,prod_take (by rw [← HN.out];exact hlt),← HA.out,← HX.out])
   have hmul:(a:Int)*(x:Int)=(m:Int):=by rw [HM.out];exact (Int.natCast_mul a x).symm
   have hmi:(m:Int)≤1099511627776:=by
    have h1:=prod_le HB.out (i+1) (by rw [← HN.out];omega)
    have h2:=pow_small (i:=i+1) (by omega)
    rw [← hst.out] at h1
    omega
   go_wp2_with fail
   go_round
   case rel=>exact ⟨i+1,m,by omega,by go_num,rfl,hst⟩
   case measure=>simp [Go.RowKit.intOf];omega
  ·obtain rfl:i=n:=by omega
   have ilt:¬ (i:Int)<(i:Int):=by omega
   have hfin:Hid (a=prod l):=Lib.hid (by rw [HA.out,HN.out,List.take_length])
   go_wp2_with fail
   go_ret
   exact ⟨rfl,by rw [hfin.out];rfl⟩
end Go.Proofs.YtlcpcpmlfegejaaGreatDoor.Arr
set_option maxHeartbeats 1000000
set_option maxRecDepth 100000
namespace Go.Proofs.YtlcpcpmlfegejaaGreatDoor.Arr
open Go.RowKit
open Go.Lib
def sizesOk (l:List Int):Prop:=∀ z ∈ l,0≤z∧z≤1024
instance (l:List Int):Decidable (sizesOk l):=by unfold sizesOk;infer_instance
def vs (l:List Int):Bool:=decide (l.length≤4)&&decide (sizesOk l)&&decide (prod (l.map Int.toNat)≤4096)
def Shp (l:List Nat):Prop:=l.length≤4∧(∀ x ∈ l,x≤1024)∧prod l≤4096
theorem toNat_map (l:List Nat):(l.map Int.ofNat).map Int.toNat=l:=by
 rw [List.map_map]
 exact List.map_id'' (fun x=>rfl) l
theorem vs_nat {l:List Nat}:vs (l.map Int.ofNat)=true↔Shp l:=by
 unfold vs Shp sizesOk
 rw [toNat_map]
 simp only [Bool.and_eq_true,decide_eq_true_eq,List.length_map,List.mem_map,forall_exists_index,and_imp,forall_apply_eq_imp_iff₂]
 constructor
 ·rintro ⟨⟨h1,h2⟩,h3⟩
  exact ⟨h1,fun x hx=>by have:=(h2 x hx).2;exact Int.ofNat_le.1 this,h3⟩
 ·rintro ⟨h1,h2,h3⟩
  exact ⟨⟨h1,fun x hx=>⟨Int.natCast_nonneg x,Int.ofNat_le.2 (h2 x hx)⟩⟩,h3⟩
theorem vs_yes {l:List Int} (h:vs l=true):∃ m:List Nat,l=m.map Int.ofNat∧Shp m:=by
 have hs:sizesOk l:=by
  unfold vs at h
  simp only [Bool.and_eq_true,decide_eq_true_eq] at h
  exact h.1.2
 have e:l=(l.map Int.toNat).map Int.ofNat:=by
  rw [List.map_map]
  refine ((List.map_congr_left fun z hz=>?_).trans (List.map_id l)).symm
  exact Int.toNat_of_nonneg (hs z hz).1
 refine ⟨l.map Int.toNat,e,?_⟩
 rw [e] at h
 exact vs_nat.1 h
theorem vshape_any (p:Option Addr) (c:Nat) (l:List Int) (w:World) (h:Rd w p l) :
  Calls Tryz.prog 79 #[.slice p l.length c] w fun e w'=>w=w'∧e=.returned (.bool (vs l)):=by
 have H:=Lib.hid h
 by_cases h4:4<l.length
 ·have hv:vs l=false:=by unfold vs;rw [show decide (l.length≤4)=false from decide_eq_false (by omega)];rfl
  rw [hv]
  have i4:(4:Int)<(l.length:Int):=by omega
  clear h hv
  go_enter Tryz.func79,Tryz.ntmps79
  go_wp2_with fail
  go_ret
  exact ⟨rfl,rfl⟩
 ·obtain ⟨n,HN⟩:∃ n,Hid (n=l.length):=⟨_,rfl⟩
  obtain ⟨v,HV⟩:∃ v,Hid (v=vs l):=⟨_,rfl⟩
  rw [← HN.out,← HV.out]
  rw [← HN.out] at h4
  have i4:¬ (4:Int)<(n:Int):=by omega
  have hni:(n:Int)≤4:=by omega
  have HBAD:Hid (∀ k,k<n→(l.getD k 0<0∨1024<l.getD k 0)→v=false):=Lib.hid (fun k hk hz=>by
   rw [HV.out];unfold vs
   have:decide (sizesOk l)=false:=decide_eq_false (fun hs=>by
    have hm:l.getD k 0 ∈ l:=by rw [List.getD_eq_getElem?_getD,List.getElem?_eq_getElem (by rw [← HN.out];exact hk)];exact List.getElem_mem _
    have:=hs _ hm
    omega)
   rw [this,Bool.and_false,Bool.false_and])
  have HGOOD:Hid ((∀ k,k<n→0≤l.getD k 0∧l.getD k 0≤1024)→∃ m:List Nat,l=m.map Int.ofNat∧m.length=n∧(∀ x ∈ m,x≤1024)∧v=decide (prod m≤4096)):=Lib.hid (fun hg=>by
   have hs:sizesOk l:=fun z hz=>by
    obtain ⟨k,hk,e⟩:=List.getElem_of_mem hz
    have:=hg k (by rw [HN.out];exact hk)
    rw [List.getD_eq_getElem?_getD,List.getElem?_eq_getElem hk,Option.getD_some,e] at this
    exact this
   have e:l=(l.map Int.toNat).map Int.ofNat:=by
    rw [List.map_map]
    refine ((List.map_congr_left fun z hz=>?_).trans (List.map_id l)).symm
    exact Int.toNat_of_nonneg (hs z hz).1
   refine ⟨l.map Int.toNat,e,by rw [List.length_map,HN.out],fun x hx=>?_,?_⟩
   ·obtain ⟨z,hz,rfl⟩:=List.mem_map.1 hx
    have:=hs z hz;omega
   ·rw [HV.out];unfold vs
    rw [show decide (l.length≤4)=true from decide_eq_true (by rw [← HN.out];omega),decide_eq_true hs,Bool.true_and,Bool.true_and])
  clear h
  go_enter Tryz.func79,Tryz.ntmps79
  go_wp2_with fail
  go_loop [10] (fun iv=>∃ i:Nat,i≤n∧iv=.int .i64 i∧Hid (∀ k,k<i→0≤l.getD k 0∧l.getD k 0≤1024)) (fun iv=>n-(Go.RowKit.intOf iv).toNat)
  case atStart=>exact ⟨0,Nat.zero_le _,rfl,Lib.hid (fun k hk=>by omega)⟩
  case round =>
   obtain ⟨i,hi,rfl,HA⟩:=hrel
   have ii:(i:Int)≤(n:Int):=by omega
   by_cases hlt:i<n
   ·have ilt:(i:Int)<(n:Int):=by omega
    obtain ⟨b,off,z,rfl,-,hcell,HZ,-,-⟩:=H.out.at (k:=i) (by rw [← HN.out];exact hlt)
    by_cases hz0:z<0
    ·obtain rfl:v=false:=HBAD.out i hlt (.inl (by rw [← HZ.out];exact hz0))
     go_wp2_with fail
     go_ret
     exact ⟨rfl,rfl⟩
    ·by_cases hz1:1024<z
     ·obtain rfl:v=false:=HBAD.out i hlt (.inr (by rw [← HZ.out];exact hz1))
      go_wp2_with fail
      go_ret
      exact ⟨rfl,rfl⟩
     ·have hz2:z≤1024:=by omega
      have hst:Hid (∀ k,k<i+1→0≤l.getD k 0∧l.getD k 0≤1024):=Lib.hid (fun k hk=>by
       by_cases e:k=i
       ·rw [e,← HZ.out];omega
       ·exact HA.out k (by omega))
      go_wp2_with fail
      go_round
      case rel=>exact ⟨i+1,by omega,by go_num,hst⟩
      case measure=>simp [Go.RowKit.intOf];omega
   ·obtain rfl:i=n:=by omega
    have ilt:¬ (i:Int)<(i:Int):=by omega
    obtain ⟨m,hm1,hm2,hm3,hm4⟩:=HGOOD.out HA.out
    subst hm1
    have HP:=Lib.hid (product_any p c m w (by rw [hm2];omega) hm3 H.out)
    rw [hm2] at HP
    obtain ⟨P,HPP⟩:∃ P,Hid (P=prod m):=⟨_,rfl⟩
    rw [← HPP.out] at hm4 HP
    have HM4:=Lib.hid hm4
    have hfin:Hid (decide ((P:Int)≤4096)=v):=Lib.hid (by
     rw [HM4.out];by_cases e:P≤4096
     ·rw [decide_eq_true e,decide_eq_true (by omega)]
     ·rw [decide_eq_false e,decide_eq_false (by omega)])
    clear hm4 hm2 hm3
    go_wp2_with fail
    refine (HP.out).mono ?_
    rintro e w' ⟨rfl,rfl⟩
    go_wp2_with fail
    go_ret
    exact ⟨rfl,by rw [← hfin.out];simp⟩
theorem count_any (p:Option Addr) (c:Nat) (l:List Nat) (w:World) (hl:l.length≤4) (hb:∀ x ∈ l,x≤1024) (h:RdN w p l) :
  Calls Tryz.prog 38 #[.slice p l.length c] w fun e w'=>w=w'∧e=.returned (.int .i64 ((prod l:Nat):Int)):=by
 have H:=Lib.hid h
 have HB:=Lib.hid hb
 obtain ⟨n,HN⟩:∃ n,Hid (n=l.length):=⟨_,rfl⟩
 rw [← HN.out] at hl ⊢
 have hni:(n:Int)≤4:=by omega
 clear h hb
 go_enter Tryz.func38,Tryz.ntmps38
 go_wp2_with fail
 go_loop [3,4] (fun pv iv=>∃ i a:Nat,i≤n∧iv=.int .i64 i∧pv=.int .i64 a∧Hid (a=prod (l.take i))) (fun _ iv=>n-(Go.RowKit.intOf iv).toNat)
 case atStart=>exact ⟨0,1,Nat.zero_le _,rfl,rfl,Lib.hid (by simp [prod])⟩
 case round =>
  obtain ⟨i,a,hi,rfl,rfl,HA⟩:=hrel
  have ii:(i:Int)≤(n:Int):=by omega
  by_cases hlt:i<n
  ·have ilt:(i:Int)<(n:Int):=by omega
   obtain ⟨b,off,x,rfl,-,hcell,HX⟩:=H.out.at (k:=i) (by rw [← HN.out];exact hlt)
   obtain ⟨m,HM⟩:∃ m,Hid (m=a*x):=⟨_,rfl⟩
   have hst:Hid (m=prod (l.take (i+1))):=Lib.hid (by rw [HM.out,prod_take (by rw [← HN.out];exact hlt),← HA.out,← HX.out])
   have hmul:(a:Int)*(x:Int)=(m:Int):=by rw [HM.out];exact (Int.natCast_mul a x).symm
   have hmi:(m:Int)≤1099511627776:=by
    have h1:=prod_le HB.out (i+1) (by rw [← HN.out];omega)
    have h2:=pow_small (i:=i+1) (by omega)
    rw [← hst.out] at h1
    omega
   go_wp2_with fail
   go_round
   case rel=>exact ⟨i+1,m,by omega,by go_num,rfl,hst⟩
   case measure=>simp [Go.RowKit.intOf];omega
  ·obtain rfl:i=n:=by omega
   have ilt:¬ (i:Int)<(i:Int):=by omega
   have hfin:Hid (a=prod l):=Lib.hid (by rw [HA.out,HN.out,List.take_length])
   go_wp2_with fail
   go_ret
   exact ⟨rfl,by rw [hfin.out];rfl⟩
theorem rvshape_any (p:Option Addr) (c:Nat) (l:List Int) (w:World) (h:Rd w p l) :
  Calls Tryz.prog 37 #[.slice p l.length c] w fun e w'=>w=w'∧e=.returned (.bool (vs l)):=by
 have H:=Lib.hid h
 by_cases h4:4<l.length
 ·have hv:vs l=false:=by unfold vs;rw [show decide (l.length≤4)=false from decide_eq_false (by omega)];rfl
  rw [hv]
  have i4:(4:Int)<(l.length:Int):=by omega
  clear h hv
  go_enter Tryz.func37,Tryz.ntmps37
  go_wp2_with fail
  go_ret
  exact ⟨rfl,rfl⟩
 ·obtain ⟨n,HN⟩:∃ n,Hid (n=l.length):=⟨_,rfl⟩
  obtain ⟨v,HV⟩:∃ v,Hid (v=vs l):=⟨_,rfl⟩
  rw [← HN.out,← HV.out]
  rw [← HN.out] at h4
  have i4:¬ (4:Int)<(n:Int):=by omega
  have hni:(n:Int)≤4:=by omega
  have HBAD:Hid (∀ k,k<n→(l.getD k 0<0∨1024<l.getD k 0)→v=false):=Lib.hid (fun k hk hz=>by
   rw [HV.out];unfold vs
   have:decide (sizesOk l)=false:=decide_eq_false (fun hs=>by
    have hm:l.getD k 0 ∈ l:=by rw [List.getD_eq_getElem?_getD,List.getElem?_eq_getElem (by rw [← HN.out];exact hk)];exact List.getElem_mem _
    have:=hs _ hm
    omega)
   rw [this,Bool.and_false,Bool.false_and])
  have HGOOD:Hid ((∀ k,k<n→0≤l.getD k 0∧l.getD k 0≤1024)→∃ m:List Nat,l=m.map Int.ofNat∧m.length=n∧(∀ x ∈ m,x≤1024)∧v=decide (prod m≤4096)):=Lib.hid (fun hg=>by
   have hs:sizesOk l:=fun z hz=>by
    obtain ⟨k,hk,e⟩:=List.getElem_of_mem hz
    have:=hg k (by rw [HN.out];exact hk)
    rw [List.getD_eq_getElem?_getD,List.getElem?_eq_getElem hk,Option.getD_some,e] at this
    exact this
   have e:l=(l.map Int.toNat).map Int.ofNat:=by
    rw [List.map_map]
    refine ((List.map_congr_left fun z hz=>?_).trans (List.map_id l)).symm
    exact Int.toNat_of_nonneg (hs z hz).1
   refine ⟨l.map Int.toNat,e,by rw [List.length_map,HN.out],fun x hx=>?_,?_⟩
   ·obtain ⟨z,hz,rfl⟩:=List.mem_map.1 hx
    have:=hs z hz;omega
   ·rw [HV.out];unfold vs
    rw [show decide (l.length≤4)=true from decide_eq_true (by rw [← HN.out];omega),decide_eq_true hs,Bool.true_and,Bool.true_and])
  clear h
  go_enter Tryz.func37,Tryz.ntmps37
  go_wp2_with fail
  go_loop [3] (fun iv=>∃ i:Nat,i≤n∧iv=.int .i64 i∧Hid (∀ k,k<i→0≤l.getD k 0∧l.getD k 0≤1024)) (fun iv=>n-(Go.RowKit.intOf iv).toNat)
  case atStart=>exact ⟨0,Nat.zero_le _,rfl,Lib.hid (fun k hk=>by omega)⟩
  case round =>
   obtain ⟨i,hi,rfl,HA⟩:=hrel
   have ii:(i:Int)≤(n:Int):=by omega
   by_cases hlt:i<n
   ·have ilt:(i:Int)<(n:Int):=by omega
    obtain ⟨b,off,z,rfl,-,hcell,HZ,-,-⟩:=H.out.at (k:=i) (by rw [← HN.out];exact hlt)
    by_cases hz0:z<0
    ·obtain rfl:v=false:=HBAD.out i hlt (.inl (by rw [← HZ.out];exact hz0))
     go_wp2_with fail
     go_ret
     exact ⟨rfl,rfl⟩
    ·by_cases hz1:1024<z
     ·obtain rfl:v=false:=HBAD.out i hlt (.inr (by rw [← HZ.out];exact hz1))
      go_wp2_with fail
      go_ret
      exact ⟨rfl,rfl⟩
     ·have hz2:z≤1024:=by omega
      have hst:Hid (∀ k,k<i+1→0≤l.getD k 0∧l.getD k 0≤1024):=Lib.hid (fun k hk=>by
       by_cases e:k=i
       ·rw [e,← HZ.out];omega
       ·exact HA.out k (by omega))
      go_wp2_with fail
      go_round
      case rel=>exact ⟨i+1,by omega,by go_num,hst⟩
      case measure=>simp [Go.RowKit.intOf];omega
   ·obtain rfl:i=n:=by omega
    have ilt:¬ (i:Int)<(i:Int):=by omega
    obtain ⟨m,hm1,hm2,hm3,hm4⟩:=HGOOD.out HA.out
    subst hm1
    have HP:=Lib.hid (count_any p c m w (by rw [hm2];omega) hm3 H.out)
    rw [hm2] at HP
    obtain ⟨P,HPP⟩:∃ P,Hid (P=prod m):=⟨_,rfl⟩
    rw [← HPP.out] at hm4 HP
    have HM4:=Lib.hid hm4
    have hfin:Hid (decide ((P:Int)≤4096)=v):=Lib.hid (by
     rw [HM4.out];by_cases e:P≤4096
     ·rw [decide_eq_true e,decide_eq_true (by omega)]
     ·rw [decide_eq_false e,decide_eq_false (by omega)])
    clear hm4 hm2 hm3
    go_wp2_with fail
    refine (HP.out).mono ?_
    rintro e w' ⟨rfl,rfl⟩
    go_wp2_with fail
    go_ret
    exact ⟨rfl,by rw [← hfin.out];simp⟩
end Go.Proofs.YtlcpcpmlfegejaaGreatDoor.Arr
