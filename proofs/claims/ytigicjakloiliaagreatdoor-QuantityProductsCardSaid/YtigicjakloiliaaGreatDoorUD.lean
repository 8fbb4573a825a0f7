/- The document's read of a unit, ValidUnit, Plain. -/
import Derived.Test.YtigicjakloiliaaGreatDoorUA
import Derived.Test.YtigicjakloiliaaGreatDoorSB
import Derived.Test.YtigicjakloiliaaGreatDoorPart11
set_option maxHeartbeats 3200000
set_option maxRecDepth 100000
namespace Go.Proofs.YtigicjakloiliaaGreatDoor
open Go.RowKit Big
open Go.Lib
theorem sgn_gt (q:Rat):decide (0<sgnQ q)=decide (0<q):=by
 have h:=@Rat.num_nonneg q
 unfold sgnQ
 by_cases h1:q.num<0
 ·have h2:¬ 0≤q:=fun e=>by have:=h.2 e;omega
  rw [if_pos h1,decide_eq_false (show ¬ 0<q from fun e=>h2 (Rat.le_of_lt e))];rfl
 ·rw [if_neg h1]
  by_cases h2:q.num=0
  ·have h3:=Rat.num_eq_zero.1 h2
   subst h3
   rw [if_pos h2];rfl
  ·have h3:0≤q:=h.1 (by omega)
   have h4:q≠0:=fun e=>h2 (by rw [e];rfl)
   rw [if_neg h2,decide_eq_true (show 0<q by grind)];rfl
theorem valT_lt (l:List UInt8):QLt 5 (valT l):=by
 unfold valT
 cases h:num l with
 | some q=>exact num_lt9 h
 | none=>exact ⟨by show (0:Rat).num.natAbs<_;rw [B9_eq];decide,by show (0:Rat).den<_;rw [B9_eq];decide⟩
theorem uread_is (f o:ByteArray) (p0 p1 p2 p3 p4 p5 p6:Int) (w:World):Calls Tryz.prog 116 #[.agg #[.string f,.string o,.int .i64 p0,.int .i64 p1,.int .i64 p2,.int .i64 p3,.int .i64 p4,.int .i64 p5,.int .i64 p6]] w
  (ScPost (valT f.data.toList) (valT o.data.toList) p0 p1 p2 p3 p4 p5 p6 (validT (tU f o p0 p1 p2 p3 p4 p5 p6)) w):=by
 refine uread_any f o p0 p1 p2 p3 p4 p5 p6 _ _ (num f.data.toList).isSome (num o.data.toList).isSome _ (sgnQ (valT f.data.toList)) w (hiD ?_) (hiD fun W _=>get_flag f _ rfl W) (hiD fun W _=>get_flag o _ rfl W) (hiD fun W u hu=>sgn_any u _ W hu)
 rw [sgn_gt]
 unfold validT posT tU valT
 simp only
 cases num f.data.toList with
 | none=>rfl
 | some q =>
  cases num o.data.toList with
  | none=>simp
  | some r=>simp [Bool.and_comm]
theorem rvu_walk (f o:ByteArray) (p0 p1 p2 p3 p4 p5 p6:Int) (qf qo:Rat) (ok:Bool) (w:World) (h:Hid (∀ W,Calls Tryz.prog 116 #[.agg #[.string f,.string o,.int .i64 p0,.int .i64 p1,.int .i64 p2,.int .i64 p3,.int .i64 p4,.int .i64 p5,.int .i64 p6]] W (ScPost qf qo p0 p1 p2 p3 p4 p5 p6 ok W))):Calls Tryz.prog 58 #[.agg #[.string f,.string o,.int .i64 p0,.int .i64 p1,.int .i64 p2,.int .i64 p3,.int .i64 p4,.int .i64 p5,.int .i64 p6]] w fun e w'=>e=.returned (.bool ok)∧Below w.heap.size w w':=by
 have hb0:=hiD (bea w (.cells #[.string f,.string o,.int .i64 p0,.int .i64 p1,.int .i64 p2,.int .i64 p3,.int .i64 p4,.int .i64 p5,.int .i64 p6] 53))
 go_enter Tryz.func58,Tryz.ntmps58
 go_wp2_with fail
 refine (h.out _).mono ?_
 rintro e w1 ⟨b1,x1,n1,c1,y1,m1,d1,b2,x2,n2,c2,y2,m2,d2,rfl,hb,-⟩
 have hb1:=hb0.out.trans (hb.mono hb0.out.size)
 have HB:Hid (∀ o1,Below w.heap.size w (w1.alloc o1)):=hiD fun o1=>hb1.alloc hb1.size o1
 clear hb hb1
 go_wp2_with fail
 go_ret
 exact ⟨rfl,HB.out _⟩
theorem rvu_any (f o:ByteArray) (p0 p1 p2 p3 p4 p5 p6:Int) (w:World):Calls Tryz.prog 58 #[.agg #[.string f,.string o,.int .i64 p0,.int .i64 p1,.int .i64 p2,.int .i64 p3,.int .i64 p4,.int .i64 p5,.int .i64 p6]] w fun e w'=>e=.returned (.bool (validT (tU f o p0 p1 p2 p3 p4 p5 p6)))∧Below w.heap.size w w' :=
 rvu_walk f o p0 p1 p2 p3 p4 p5 p6 _ _ _ w (hiD fun W=>uread_is f o p0 p1 p2 p3 p4 p5 p6 W)
end Go.Proofs.YtigicjakloiliaaGreatDoor
