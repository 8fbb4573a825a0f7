/- The document's Plain. -/
import Derived.Test.YtigicjakloiliaaGreatDoorUD
set_option maxHeartbeats 3200000
set_option maxRecDepth 100000
namespace Go.Proofs.YtigicjakloiliaaGreatDoor
open Go.RowKit Big
open Go.Lib
theorem rpl_no (f o:ByteArray) (p0 p1 p2 p3 p4 p5 p6:Int) (w:World) (hp:Hid (∀ W,Below w.heap.size w W→Calls Tryz.prog 58 #[.agg #[.string f,.string o,.int .i64 p0,.int .i64 p1,.int .i64 p2,.int .i64 p3,.int .i64 p4,.int .i64 p5,.int .i64 p6]] W fun e w'=>e=.returned (.bool false)∧Below W.heap.size W w')):Calls Tryz.prog 115 #[.agg #[.string f,.string o,.int .i64 p0,.int .i64 p1,.int .i64 p2,.int .i64 p3,.int .i64 p4,.int .i64 p5,.int .i64 p6]] w fun e w'=>e=.returned (.bool false)∧Below w.heap.size w w':=by
 have hb0:=hiD (bea w (.cells #[.string f,.string o,.int .i64 p0,.int .i64 p1,.int .i64 p2,.int .i64 p3,.int .i64 p4,.int .i64 p5,.int .i64 p6] 53))
 go_enter Tryz.func115,Tryz.ntmps115
 go_wp2_with fail
 refine (hp.out _ hb0.out).mono ?_
 rintro e w1 ⟨rfl,hb1⟩
 have Hb1:=hiD (hb0.out.trans (hb1.mono hb0.out.size))
 clear hb1
 go_wp2_with fail
 go_ret
 exact ⟨rfl,Hb1.out⟩
theorem rpl_yes (f o:ByteArray) (p0 p1 p2 p3 p4 p5 p6:Int) (w:World) (hp:Hid (∀ W,Below w.heap.size w W→Calls Tryz.prog 58 #[.agg #[.string f,.string o,.int .i64 p0,.int .i64 p1,.int .i64 p2,.int .i64 p3,.int .i64 p4,.int .i64 p5,.int .i64 p6]] W fun e w'=>e=.returned (.bool true)∧Below W.heap.size W w')):Calls Tryz.prog 115 #[.agg #[.string f,.string o,.int .i64 p0,.int .i64 p1,.int .i64 p2,.int .i64 p3,.int .i64 p4,.int .i64 p5,.int .i64 p6]] w fun e w'=>e=.returned (.bool (o.toList==[48]))∧Below w.heap.size w w':=by
 have hb0:=hiD (bea w (.cells #[.string f,.string o,.int .i64 p0,.int .i64 p1,.int .i64 p2,.int .i64 p3,.int .i64 p4,.int .i64 p5,.int .i64 p6] 53))
 have hx0:=hiD (heap_new w (.cells #[.string f,.string o,.int .i64 p0,.int .i64 p1,.int .i64 p2,.int .i64 p3,.int .i64 p4,.int .i64 p5,.int .i64 p6] 53))
 go_enter Tryz.func115,Tryz.ntmps115
 go_wp2_with fail
 refine (hp.out _ hb0.out).mono ?_
 rintro e w1 ⟨rfl,hb1⟩
 have Hb1:=hiD (hb0.out.trans (hb1.mono hb0.out.size))
 have hx1:=(hb1.block w.heap.size (by simp)).trans hx0.out
 have e1:=ceh hx1 1
 clear hb1 hx1
 go_wp2_with fail
 go_ret
 exact ⟨rfl,Hb1.out⟩
theorem rpl_any (f o:ByteArray) (p0 p1 p2 p3 p4 p5 p6:Int) (w:World):Calls Tryz.prog 115 #[.agg #[.string f,.string o,.int .i64 p0,.int .i64 p1,.int .i64 p2,.int .i64 p3,.int .i64 p4,.int .i64 p5,.int .i64 p6]] w fun e w'=>e=.returned (.bool (plainT (tU f o p0 p1 p2 p3 p4 p5 p6)))∧Below w.heap.size w w':=by
 have hp:=fun W (_:Below w.heap.size w W)=>rvu_any f o p0 p1 p2 p3 p4 p5 p6 W
 have he:((tU f o p0 p1 p2 p3 p4 p5 p6).o==[48])=(o.toList==[48]):=by rw [Lib.toList_data];rfl
 unfold plainT
 rw [he]
 cases h1:validT (tU f o p0 p1 p2 p3 p4 p5 p6) with
 | false =>
  rw [h1] at hp
  exact rpl_no f o p0 p1 p2 p3 p4 p5 p6 w (hiD hp)
 | true =>
  rw [h1] at hp
  exact rpl_yes f o p0 p1 p2 p3 p4 p5 p6 w (hiD hp)
end Go.Proofs.YtigicjakloiliaaGreatDoor
