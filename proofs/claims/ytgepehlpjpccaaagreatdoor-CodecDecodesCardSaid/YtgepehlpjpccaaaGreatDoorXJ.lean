/- Contracts. -/
import Derived.Test.YtgepehlpjpccaaaGreatDoorXA
import Derived.Lib.SmallJoins
set_option maxRecDepth 100000
namespace Go.Proofs.YtgepehlpjpccaaaGreatDoor
open Go.ChangeMaps Go.ChangeShapes Go.WideShapes Go.ChangeAt Go.RowKit Go.Deep
section
theorem yr7:Tryz.prog.cellsOf 22=1:=by kernel_rfl
section
variable {H : Type} {enc : TypeId × Value → H} {w : World} {base b0 : Nat} {spare : Nat → Bool} {yjn : Bool} {v : Value} {r : Reach} {d : DataW H} {p : List MemPlace}
end
end
section
theorem yr8:Tryz.prog.cellsOf 48=4:=by kernel_rfl
theorem yr9:Tryz.prog.cellsOf 39=1:=by kernel_rfl
theorem ymY:Tryz.prog.readableRec 48=true:=by kernel_rfl
theorem yo6:48<Tryz.prog.types.size:=of_decide_eq_true (by kernel_rfl)
section
variable {H : Type} {enc : TypeId × Value → H} {w : World} {base b0 : Nat} {spare : Nat → Bool} {yjn : Bool} {v : Value} {y : DataW H × List MemPlace} {n : Nat} {r : Reach} {d : DataW H} {p : List MemPlace}
theorem ysa (h:DataW.trod enc Tryz.prog w base spare yjn n 39 [v]=some y):∃ (q:Oa) (c:Nat) (l:Lb),v=.slice q l.length c∧l.length≤c∧c≤maxLen∧Bs w q l:=by
 rcases open_ints Tryz.underlying39 Tryz.underlying5 yvp h with ⟨e,-⟩|⟨a,len,cap,zs,e,hb,hl,hm,hlen,-,hc,hwf⟩
 ·simp at e
  exact ⟨none,0,[],e,Nat.le_refl _,Nat.zero_le _,Bs.nil _ _⟩
 ·simp at e
  have hz:len≤zs.length:=by rw [hlen];split<;>omega
  have hll:((zs.take len).map fun z=>UInt8.ofNat z.toNat).length=len:=by simp [hz]
  refine ⟨some a,cap,(zs.take len).map (fun z=>UInt8.ofNat z.toNat),by rw [hll];exact e,by rw [hll];exact hl,hm,?_⟩
  by_cases h0:len=0
  ·exact .inl (by rw [hll];exact h0)
  ·have h1:=hc 0 (by omega)
   rw [Addr.add_zero'] at h1
   obtain ⟨b,off,rfl,hlt⟩:=ynH h1
   refine .inr ⟨b,off,rfl,hlt,fun j hj=>?_⟩
   rw [hll] at hj
   have h2:=hc j (by omega)
   rw [Addr.add_lit] at h2
   have hj2:j<zs.length:=by omega
   have hw:=bounds_u8 (hwf zs[j] (List.getElem_mem hj2))
   rw [h2]
   have e1:zs.getD j 0=zs[j]:=by simp [List.getD_eq_getElem?_getD,hj2]
   have e2:((zs.take len).map fun z=>UInt8.ofNat z.toNat).getD j 0=UInt8.ofNat zs[j].toNat:=by
    simp [List.getD_eq_getElem?_getD,hj,hj2]
   rw [e1,e2,UInt8.toNat_ofNat']
   congr 2
   omega
theorem yk3 (hv:Value.okWide Tryz.prog w r b0 48 v) (h:DataW.Trod enc Tryz.prog w base spare yjn 48 v d p) :
  ∃ (k N:Int) (p1 p2:Oa) (c1 c2:Nat) (ss:List Sg) (lb:Lb),v=.agg #[.int .i64 k,.slice p1 ss.length c1,.int .i64 N,.slice p2 lb.length c2]∧RdG w p1 ss∧lb.length≤c2∧Bs w p2 lb:=by
 obtain ⟨cs,rfl,hsz⟩:=okWide_struct Tryz.underlying48 hv
 obtain ⟨x0,x1,x2,x3,rfl⟩:=Go.Joins.array4 (hsz.trans yr8)
 obtain ⟨fuel,hf⟩:=h
 obtain ⟨y0,y1,y2,y3,n,-,-,h0,h1,h2,h3⟩:=Go.Joins.trod_struct4 Tryz.underlying48 hf
 simp [Value.cells,ynI,yr7,yr9] at h0 h1 h2 h3
 obtain ⟨k,e0,-,-⟩:=DataW.trod_int Tryz.underlying3 h0
 obtain ⟨p1,c1,ss,rfl,hr1⟩:=yo4 h1
 obtain ⟨N,e2,-,-⟩:=DataW.trod_int Tryz.underlying3 h2
 obtain ⟨p2,c2,lb,rfl,hl2,-,hr2⟩:=ysa h3
 simp at e0 e2
 subst e0 e2
 exact ⟨k,N,p1,p2,c1,c2,ss,lb,rfl,hr1,hl2,hr2⟩
end
end
end Go.Proofs.YtgepehlpjpccaaaGreatDoor
