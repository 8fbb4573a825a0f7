/- Contracts. -/
import Derived.Test.YtgepehlpjpccaaaGreatDoorXA
import Derived.Lib.SmallJoins
namespace Go.Proofs.YtgepehlpjpccaaaGreatDoor
open Go.ChangeMaps Go.ChangeShapes Go.WideShapes Go.ChangeAt Go.RowKit Go.Deep
set_option maxRecDepth 100000
section
theorem ys9:Tryz.prog.cellsOf 22=1:=by kernel_rfl
theorem yta:Tryz.prog.cellsOf 30=1:=by kernel_rfl
section
variable {H : Type} {enc : TypeId × Value → H} {w : World} {base b0 : Nat} {spare : Nat → Bool} {yhn : Bool} {v : Value} {r : Reach} {d : DataW H} {p : List MemPlace}
end
end
section
theorem ytb:Tryz.prog.cellsOf 54=3:=by kernel_rfl
theorem ytc:Tryz.prog.cellsOf 52=1:=by kernel_rfl
section
variable {H : Type} {enc : TypeId × Value → H} {w : World} {base b0 : Nat} {spare : Nat → Bool} {yhn : Bool} {v : Value} {y : DataW H × List MemPlace} {n : Nat} {r : Reach} {d : DataW H} {p : List MemPlace}
theorem yon (h:DataW.trod enc Tryz.prog w base spare yhn n 22 [v]=some y):∃ (l:List Sg) (q:Option Addr) (c:Nat),v=.slice q l.length c∧l.length≤c∧RdG w q l:=by
 obtain ⟨q,c,l,e,hr⟩:=yqa h
 refine ⟨l,q,c,e,?_,hr⟩
 rcases open_slice Tryz.underlying22 h with ⟨e2,-⟩|⟨a,len,cap,m,n2,D,Pl,e2,hb,hl,-⟩
 ·injection e2 with e2 _
  rw [e2] at e
  injection e with e3 e4 e5
  omega
 ·injection e2 with e2 _
  rw [e2] at e
  injection e with e3 e4 e5
  omega
theorem ytd (h:DataW.trod enc Tryz.prog w base spare yhn n 52 [v]=some y):∃ (q:Option Addr) (c:Nat) (l:List (List Sg)),v=.slice q l.length c∧RdP w q l:=by
 rcases open_slice Tryz.underlying52 h with ⟨e,-⟩|⟨a,len,cap,m,n2,D,Pl,e,hb,hl,hm,hmm,-,hi⟩
 ·simp at e
  exact ⟨none,0,[],e,.inl rfl⟩
 ·simp at e
  have hlm:len≤m:=by rw [hmm];split<;>omega
  rw [ys9] at hi
  have each:∀ i,i<len→∃ (z:List Sg) (q:Option Addr) (c:Nat),w.cell? (a.add i)=some (.slice q z.length c)∧z.length≤c∧RdG w q z:=fun i hil=>by
   obtain ⟨cs,hcs,ht⟩:=hi i (by omega)
   obtain ⟨-,hlen,hat⟩:=World.cells?_some hcs
   have c0:=hat 0 (by omega)
   match cs,hlen with
   | [x0],_ =>
    obtain ⟨z,q,c,rfl,hz,hr⟩:=yon ht
    refine ⟨z,q,c,?_,hz,hr⟩
    simpa [Addr.add] using c0
  refine ⟨some a,cap,(List.range len).map (fun i=>if hil:i<len then (each i hil).choose else []),by simpa using e,?_⟩
  by_cases h0:len=0
  ·exact .inl (by simpa using h0)
  ·obtain ⟨zz,q0,c0,h1,-⟩:=each 0 (by omega)
   rw [Addr.add_zero'] at h1
   obtain ⟨b,off,rfl,hlt⟩:=yjl h1
   refine .inr ⟨b,off,rfl,hlt,fun j hj=>?_⟩
   have hjl:j<len:=by simpa using hj
   have h2:=(each j hjl).choose_spec
   have e3:((List.range len).map (fun i=>if hil:i<len then (each i hil).choose else [])).getD j []=(each j hjl).choose:=by
    rw [List.getD_eq_getElem?_getD,List.getElem?_map,List.getElem?_range hjl]
    show (if hil:j<len then (each j hil).choose else [])=_
    rw [dif_pos hjl]
   rw [e3]
   revert h2
   generalize (each j hjl).choose=zc
   intro h2
   obtain ⟨q,c,h3,h4,h5⟩:=h2
   rw [Addr.add_lit] at h3
   exact ⟨q,c,h3,h4,h5⟩
theorem yoo (hv:Value.okWide Tryz.prog w r b0 54 v) (h:DataW.Trod enc Tryz.prog w base spare yhn 54 v d p) :
  ∃ (k:Int) (p1 p2:Option Addr) (c1 c2:Nat) (ps:List (List Sg)) (xs:List (List UInt8)),v=.agg #[.int .i64 k,.slice p1 ps.length c1,.slice p2 xs.length c2]∧RdP w p1 ps∧Ss w p2 xs:=by
 obtain ⟨cs,rfl,hsz⟩:=okWide_struct Tryz.underlying54 hv
 obtain ⟨x0,x1,x2,rfl⟩:=Go.Joins.array3 (hsz.trans ytb)
 obtain ⟨fuel,hf⟩:=h
 obtain ⟨y0,y1,y2,n,-,-,h0,h1,h2⟩:=trod_struct3 Tryz.underlying54 hf
 simp [Value.cells,ypg,ytc,yta] at h0 h1 h2
 obtain ⟨k,e0,-,-⟩:=DataW.trod_int Tryz.underlying3 h0
 obtain ⟨p1,c1,ss,rfl,hr1⟩:=ytd h1
 obtain ⟨p2,c2,xs,rfl,hr2⟩:=yu9 h2
 simp at e0
 subst e0
 exact ⟨k,p1,p2,c1,c2,ss,xs,rfl,hr1,hr2⟩
end
end
end Go.Proofs.YtgepehlpjpccaaaGreatDoor
