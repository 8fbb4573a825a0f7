/- Contracts. -/
import Derived.Test.YtgepehlpjpccaaaGreatDoorXA
import Derived.Lib.SmallJoins
set_option maxRecDepth 100000
namespace Go.Proofs.YtgepehlpjpccaaaGreatDoor
open Go.ChangeMaps Go.ChangeShapes Go.WideShapes Go.ChangeAt Go.RowKit Go.Deep
section
theorem yuQ:Tryz.prog.cellsOf 38=3:=by kernel_rfl
theorem yuR:Tryz.prog.cellsOf 22=1:=by kernel_rfl
theorem yuS:Tryz.prog.cellsOf 30=1:=by kernel_rfl
section
variable {H : Type} {enc : TypeId × Value → H} {w : World} {base b0 : Nat} {spare : Nat → Bool} {yn2 : Bool} {v : Value} {r : Reach} {d : DataW H} {p : List MemPlace}
theorem ypi (hv:Value.okWide Tryz.prog w r b0 38 v) (h:DataW.Trod enc Tryz.prog w base spare yn2 38 v d p) :
  ∃ (k:Int) (p1 p2:Oa) (c1 c2:Nat) (ss:List Sg) (xs:List Lb),v=.agg #[.int .i64 k,.slice p1 ss.length c1,.slice p2 xs.length c2]∧RdG w p1 ss∧Ss w p2 xs:=by
 obtain ⟨cs,rfl,hsz⟩:=okWide_struct Tryz.underlying38 hv
 obtain ⟨x0,x1,x2,rfl⟩:=Go.Joins.array3 (hsz.trans yuQ)
 obtain ⟨fuel,hf⟩:=h
 obtain ⟨y0,y1,y2,n,-,-,h0,h1,h2⟩:=trod_struct3 Tryz.underlying38 hf
 simp [Value.cells,yp7,yuR,yuS] at h0 h1 h2
 obtain ⟨k,e0,-,-⟩:=DataW.trod_int Tryz.underlying3 h0
 obtain ⟨p1,c1,ss,rfl,hr1⟩:=yrq h1
 obtain ⟨p2,c2,xs,rfl,hr2⟩:=yw0 h2
 simp at e0
 subst e0
 exact ⟨k,p1,p2,c1,c2,ss,xs,rfl,hr1,hr2⟩
end
end
end Go.Proofs.YtgepehlpjpccaaaGreatDoor
