/- QuantityUnits: the law's walk. -/
import Derived.Test.YtigicjakloiliaaGreatDoorCx
import Derived.Laws.StructEq
import Derived.ChangeKeysEq
set_option maxRecDepth 100000
namespace Go.Proofs.YtigicjakloiliaaGreatDoor
open Go.RowKit Go.Lib Big
theorem powers_same (a0 a1 a2 a3 a4 a5 a6:Int) (W:World):(Op.equalIn 9999 51 (.agg #[.int .i64 a0,.int .i64 a1,.int .i64 a2,.int .i64 a3,.int .i64 a4,.int .i64 a5,.int .i64 a6]) (.agg #[.int .i64 a0,.int .i64 a1,.int .i64 a2,.int .i64 a3,.int .i64 a4,.int .i64 a5,.int .i64 a6])).run Tryz.prog W=.ok true W:=by
 obtain ⟨i,hi⟩:=Option.isSome_iff_exists.1 (by kernel_rfl:(Tryz.prog.info? 3).isSome=true)
 have u3:=Tryz.underlying3
 rw [show (9999:Nat)=9998+1 from rfl,run_equalIn_array W 9998 _ _ Tryz.underlying51 hi]
 simp only [show List.range 7=[0,1,2,3,4,5,6] from rfl]
 have hc:Tryz.prog.cellsOf 3=1:=by kernel_rfl
 simp only [Op.eqItems,hc]
 go_simp
theorem tU_of {r:UnitT} (h:r.ps.length=7):∃ (f o:ByteArray) (p0 p1 p2 p3 p4 p5 p6:Int),tU f o p0 p1 p2 p3 p4 p5 p6=r:=by
 obtain ⟨f,o,ps⟩:=r
 dsimp only at h
 match ps,h with
 | [p0,p1,p2,p3,p4,p5,p6],_=>exact ⟨⟨f.toArray⟩,⟨o.toArray⟩,p0,p1,p2,p3,p4,p5,p6,rfl⟩
theorem mkT_len {q:Rat} {ps:List Int} (h:ps.length=7):(mkT q ps).1.ps.length=7:=by
 unfold mkT
 split
 ·rfl
 ·exact h
theorem combT_len {u v:UnitT} (n:Int) (hu:u.ps.length=7) (hv:v.ps.length=7):(combT u v n).1.ps.length=7:=by
 unfold combT
 split
 ·exact mkT_len (by simp [hu,hv])
 ·rfl
theorem powT_len {u:UnitT} (n:Int) (hu:u.ps.length=7):(powT u n).1.ps.length=7:=by
 unfold powT
 split
 ·split
  ·exact mkT_len (by simp [hu])
  ·rfl
 ·rfl
theorem bytes_ext {a b:ByteArray} (h:a.data.toList=b.data.toList):a=b:=by
 cases a;cases b;congr 1;exact Array.toList_inj.1 h
theorem unitPost_to (fa oa:ByteArray) (a0 a1 a2 a3 a4 a5 a6:Int) {r:UnitT × Int} {x:Int} {W W':World} {E:Ending} (h1:(tU fa oa a0 a1 a2 a3 a4 a5 a6)=r.1) (h2:x=r.2) (h:UnitPost r W E W'):E=.returned (.tuple #[.agg #[.string fa,.string oa,.int .i64 a0,.int .i64 a1,.int .i64 a2,.int .i64 a3,.int .i64 a4,.int .i64 a5,.int .i64 a6],.int .i64 x])∧Below W.heap.size W W':=by
 obtain ⟨f,o,q0,q1,q2,q3,q4,q5,q6,rfl,ht,hb⟩:=h
 rw [← h1] at ht
 unfold tU at ht
 simp only [UnitT.mk.injEq,List.cons.injEq,and_true] at ht
 obtain ⟨e1,e2,rfl,rfl,rfl,rfl,rfl,rfl,rfl⟩:=ht
 rw [bytes_ext e1,bytes_ext e2,h2]
 exact ⟨rfl,hb⟩
end Go.Proofs.YtigicjakloiliaaGreatDoor
