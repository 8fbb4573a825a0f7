/- Contracts. -/
import Derived.Test.YtfjnipkpfbkegaaGreatDoorPart11
set_option maxHeartbeats 3200000
set_option maxRecDepth 100000
namespace Go.Proofs.YtfjnipkpfbkegaaGreatDoor
open Go.RowKit Go.Lib Big
section
abbrev Blk:=Nat × Array Value × TypeId
structure Keep (w0 W:World) (L:List Blk):Prop where
 below:Below w0.heap.size w0 W
 all:∀ x ∈ L,W.heap[x.1]?=some (.cells x.2.1 x.2.2 (0,0))
section
variable {w0 W W' : World} {L : List Blk}
theorem Keep.next (h:Keep w0 W L) (hb:Below W.heap.size W W'):Keep w0 W' L :=
 ⟨h.below.trans (hb.mono h.below.size),fun x hx=>(hb.block _ (Array.getElem?_eq_some_iff.1 (h.all x hx)).1).trans (h.all x hx)⟩
theorem Keep.drew (h:Keep w0 W L):Keep w0 W.drew L:=⟨h.below.drew,h.all⟩
theorem Keep.one (h:Keep w0 W L) (x:Blk) (hx:x ∈ L):W.heap[x.1]?=some (.cells x.2.1 x.2.2 (0,0)):=h.all x hx
theorem Keep.nil (w:World):Keep w w []:=⟨Below.refl _ _,fun _ h=>by cases h⟩
theorem Keep.sub {M:List Blk} (h:Keep w0 W L) (hM:∀ x ∈ M,x ∈ L):Keep w0 W M:=⟨h.below,fun x hx=>h.all x (hM x hx)⟩
theorem Keep.more (h:Keep w0 W L) (c:Array Value) (T:TypeId):Keep w0 (W.alloc (.cells c T)) ((W.heap.size,c,T)::L):=by
 have h2:=h.next (zK W (.cells c T))
 refine ⟨h2.below,fun x hx=>?_⟩
 rcases List.mem_cons.1 hx with rfl|hx
 ·exact yV W _
 ·exact h2.all x hx
theorem Keep.put {g:Nat} {c:Array Value} {T:TypeId} (h:Keep w0 W ((g,c,T)::L)) (hg:w0.heap.size≤g) (hne:∀ x ∈ L,x.1≠g) (k:Nat) (v:Value):Keep w0 (W.setCell ⟨g,k,none⟩ v) ((g,c.setIfInBounds k v,T)::L):=by
 refine ⟨h.below.setCell hg _,fun x hx=>?_⟩
 rcases List.mem_cons.1 hx with rfl|hx
 ·exact yK g k c T v (h.all _ (List.mem_cons_self ..))
 ·exact (Below.heap_setCell _ _ _ _ (hne x hx)).trans (h.all x (List.mem_cons_of_mem _ hx))
theorem Keep.lt (h:Keep w0 W L) {x:Blk} (hx:x ∈ L):x.1<W.heap.size:=(Array.getElem?_eq_some_iff.1 (h.all x hx)).1
end
theorem uU (p:UInt8→Bool) (l:List UInt8) (k:Nat) (hk:k≤l.length) (ha:(l.take k).all p=true) (hs:k=l.length∨∃ h:k<l.length,p l[k]=false):(l.takeWhile p).length=k:=by
 induction l generalizing k with
 | nil=>simp at hk;simp [hk]
 | cons x l ih =>
  cases k with
  | zero =>
   rcases hs with hs|⟨h,hs⟩
   ·simp at hs
   ·have:p x=false:=hs
    simp [this]
  | succ k =>
   rw [List.take_succ_cons,List.all_cons,Bool.and_eq_true] at ha
   rw [List.takeWhile_cons,if_pos ha.1,List.length_cons,ih k (by simpa using hk) ha.2]
   rcases hs with hs|⟨h,hs⟩
   ·exact .inl (by simpa using hs)
   ·exact .inr ⟨by simpa using h,by simpa using hs⟩
theorem uH (p:UInt8→Bool) (l:List UInt8) (k:Nat) (h:k<l.length) (ha:(l.take k).all p=true) (hd:p l[k]=true):(l.take (k+1)).all p=true:=by
 rw [List.take_succ_eq_append_getElem h,List.all_append,ha];simp [hd]
theorem yai (s:ByteArray) (w:World) (hs:(s.size:Int)≤9223372036854775807):Calls Tryz.prog 52 #[.string s] w fun e w'=>e=.returned (.int .i64 (yF s.data.toList))∧w=w':=by
 go_enter Tryz.func52,Tryz.ntmps52
 go_wp2_with fail
 go_loop [3] (fun i=>∃ k:Nat,k≤s.size∧i=.int .i64 k∧Hid ((s.data.toList.take k).all yG=true)) (fun i=>s.size-(intOf i).toNat)
 case atStart=>exact ⟨0,Nat.zero_le _,rfl,yA (by simp)⟩
 case round =>
  obtain ⟨k,hk,rfl,jR⟩:=hrel
  by_cases hlt:k<s.size
  ·have hkl:k<s.data.toList.length:=by simpa using hlt
   have hb:Hid (∀ d,yG s[k]=d→yG s.data.toList[k]=d):=yA (fun d h=>h)
   rcases (show (s[k].toNat:Int)<48∨(57:Int)<s[k].toNat∨((48:Int)≤s[k].toNat∧(s[k].toNat:Int)≤57) from by omega) with h0|h1|⟨h2a,h2b⟩
   ·have hf:Hid (yF s.data.toList=k):=yA (uU _ _ k (by omega) jR.out (.inr ⟨hkl,hb.out _ (by simp [yG];omega)⟩))
    go_wp2
    go_ret
    exact ⟨by rw [hf.out];rfl,rfl⟩
   ·have hf:Hid (yF s.data.toList=k):=yA (uU _ _ k (by omega) jR.out (.inr ⟨hkl,hb.out _ (by simp [yG];omega)⟩))
    go_wp2
    go_ret
    exact ⟨by rw [hf.out];rfl,rfl⟩
   ·have hn:Hid ((s.data.toList.take (k+1)).all yG=true):=yA (uH _ _ k hkl jR.out (hb.out _ (by simp [yG];omega)))
    go_wp2
    go_round
    case rel=>exact ⟨k+1,by omega,by go_num,hn⟩
    case measure=>simp [intOf];omega
  ·have hf:Hid (yF s.data.toList=k):=yA (uU _ _ k (by simpa using hk) jR.out (.inl (by simp;omega)))
   obtain rfl:k=s.size:=by omega
   go_wp2
   go_ret
   exact ⟨by rw [hf.out];rfl,rfl⟩
theorem yee (s:ByteArray) (w:World) (hs:(s.size:Int)≤9223372036854775807):Calls Tryz.prog 85 #[.string s] w fun e w'=>e=.returned (.int .i64 (zG s.data.toList))∧w=w':=by
 go_enter Tryz.func85,Tryz.ntmps85
 go_wp2_with fail
 go_loop [3] (fun i=>∃ k:Nat,k≤s.size∧i=.int .i64 k∧Hid ((s.data.toList.take k).all GI=true)) (fun i=>s.size-(intOf i).toNat)
 case atStart=>exact ⟨0,Nat.zero_le _,rfl,yA (by simp)⟩
 case round =>
  obtain ⟨k,hk,rfl,jR⟩:=hrel
  by_cases hlt:k<s.size
  ·have hkl:k<s.data.toList.length:=by simpa using hlt
   have hb:Hid (∀ d,GI s[k]=d→GI s.data.toList[k]=d):=yA (fun d h=>h)
   rcases (show (s[k].toNat:Int)<65∨((65:Int)≤s[k].toNat∧(s[k].toNat:Int)≤90)∨((90:Int)<s[k].toNat∧(s[k].toNat:Int)<97)∨((97:Int)≤s[k].toNat∧(s[k].toNat:Int)≤122)∨(122:Int)<s[k].toNat from by omega) with h0|⟨h1a,h1b⟩|⟨h2a,h2b⟩|⟨h3a,h3b⟩|h4
   ·have hf:Hid (zG s.data.toList=k):=yA (uU _ _ k (by omega) jR.out (.inr ⟨hkl,hb.out _ (by simp [GI];omega)⟩))
    go_wp2
    go_ret
    exact ⟨by rw [hf.out];rfl,rfl⟩
   ·have hn:Hid ((s.data.toList.take (k+1)).all GI=true):=yA (uH _ _ k hkl jR.out (hb.out _ (by simp [GI];omega)))
    go_wp2
    go_round
    case rel=>exact ⟨k+1,by omega,by go_num,hn⟩
    case measure=>simp [intOf];omega
   ·have hf:Hid (zG s.data.toList=k):=yA (uU _ _ k (by omega) jR.out (.inr ⟨hkl,hb.out _ (by simp [GI];omega)⟩))
    go_wp2
    go_ret
    exact ⟨by rw [hf.out];rfl,rfl⟩
   ·have hn:Hid ((s.data.toList.take (k+1)).all GI=true):=yA (uH _ _ k hkl jR.out (hb.out _ (by simp [GI];omega)))
    go_wp2
    go_round
    case rel=>exact ⟨k+1,by omega,by go_num,hn⟩
    case measure=>simp [intOf];omega
   ·have hf:Hid (zG s.data.toList=k):=yA (uU _ _ k (by omega) jR.out (.inr ⟨hkl,hb.out _ (by simp [GI];omega)⟩))
    go_wp2
    go_ret
    exact ⟨by rw [hf.out];rfl,rfl⟩
  ·have hf:Hid (zG s.data.toList=k):=yA (uU _ _ k (by simpa using hk) jR.out (.inl (by simp;omega)))
   obtain rfl:k=s.size:=by omega
   go_wp2
   go_ret
   exact ⟨by rw [hf.out];rfl,rfl⟩
end
section
section
variable {T : TypeId} {B : Nat} {w0 W W' : World}
end
theorem yeW (c:UInt8) (w:World):Calls Tryz.prog 113 #[.int .u8 c.toNat] w fun e w'=>e=.returned (.string ⟨(jD c).toArray⟩)∧w=w':=by
 by_cases yf3:c=110
 ·subst yf3
  go_enter Tryz.func113,Tryz.ntmps113
  go_wp2_with fail
  go_ret
  exact ⟨rfl,rfl⟩
 have k110:((c.toNat:Int)==110)=false:=by
  rw [beq_eq_false_iff_ne];intro h;apply yf3;apply UInt8.toNat_inj.1;have:((110:UInt8)).toNat=110:=rfl;omega
 by_cases yf4:c=117
 ·subst yf4
  go_enter Tryz.func113,Tryz.ntmps113
  go_wp2_with fail
  go_ret
  exact ⟨rfl,rfl⟩
 have k117:((c.toNat:Int)==117)=false:=by
  rw [beq_eq_false_iff_ne];intro h;apply yf4;apply UInt8.toNat_inj.1;have:((117:UInt8)).toNat=117:=rfl;omega
 by_cases yf5:c=109
 ·subst yf5
  go_enter Tryz.func113,Tryz.ntmps113
  go_wp2_with fail
  go_ret
  exact ⟨rfl,rfl⟩
 have k109:((c.toNat:Int)==109)=false:=by
  rw [beq_eq_false_iff_ne];intro h;apply yf5;apply UInt8.toNat_inj.1;have:((109:UInt8)).toNat=109:=rfl;omega
 by_cases h99:c=99
 ·subst h99
  go_enter Tryz.func113,Tryz.ntmps113
  go_wp2_with fail
  go_ret
  exact ⟨rfl,rfl⟩
 have k99:((c.toNat:Int)==99)=false:=by
  rw [beq_eq_false_iff_ne];intro h;apply h99;apply UInt8.toNat_inj.1;have:((99:UInt8)).toNat=99:=rfl;omega
 by_cases yf6:c=100
 ·subst yf6
  go_enter Tryz.func113,Tryz.ntmps113
  go_wp2_with fail
  go_ret
  exact ⟨rfl,rfl⟩
 have k100:((c.toNat:Int)==100)=false:=by
  rw [beq_eq_false_iff_ne];intro h;apply yf6;apply UInt8.toNat_inj.1;have:((100:UInt8)).toNat=100:=rfl;omega
 by_cases yf7:c=104
 ·subst yf7
  go_enter Tryz.func113,Tryz.ntmps113
  go_wp2_with fail
  go_ret
  exact ⟨rfl,rfl⟩
 have k104:((c.toNat:Int)==104)=false:=by
  rw [beq_eq_false_iff_ne];intro h;apply yf7;apply UInt8.toNat_inj.1;have:((104:UInt8)).toNat=104:=rfl;omega
 by_cases yf8:c=107
 ·subst yf8
  go_enter Tryz.func113,Tryz.ntmps113
  go_wp2_with fail
  go_ret
  exact ⟨rfl,rfl⟩
 have k107:((c.toNat:Int)==107)=false:=by
  rw [beq_eq_false_iff_ne];intro h;apply yf8;apply UInt8.toNat_inj.1;have:((107:UInt8)).toNat=107:=rfl;omega
 by_cases h77:c=77
 ·subst h77
  go_enter Tryz.func113,Tryz.ntmps113
  go_wp2_with fail
  go_ret
  exact ⟨rfl,rfl⟩
 have k77:((c.toNat:Int)==77)=false:=by
  rw [beq_eq_false_iff_ne];intro h;apply h77;apply UInt8.toNat_inj.1;have:((77:UInt8)).toNat=77:=rfl;omega
 by_cases h71:c=71
 ·subst h71
  go_enter Tryz.func113,Tryz.ntmps113
  go_wp2_with fail
  go_ret
  exact ⟨rfl,rfl⟩
 have k71:((c.toNat:Int)==71)=false:=by
  rw [beq_eq_false_iff_ne];intro h;apply h71;apply UInt8.toNat_inj.1;have:((71:UInt8)).toNat=71:=rfl;omega
 have hp:jD c=[]:=by simp [jD,yf3,yf4,yf5,h99,yf6,yf7,yf8,h77,h71]
 rw [hp]
 clear hp yf3 yf4 yf5 h99 yf6 yf7 yf8 h77 h71
 go_enter Tryz.func113,Tryz.ntmps113
 go_wp2_with fail
 go_ret
 exact ⟨rfl,rfl⟩
def vM (o:Option (List UInt8 × List Int × Bool)) (w:World) (e:Ending) (w':World):Prop :=
 Below w.heap.size w w'∧∃ (v:ByteArray) (p0 p1 p2 p3 p4 p5 p6:Int) (b:Bool),e=.returned (.tuple #[.agg #[.string v,.int .i64 p0,.int .i64 p1,.int .i64 p2,.int .i64 p3,.int .i64 p4,.int .i64 p5,.int .i64 p6,.bool b],.bool o.isSome])∧∀ x ps d,o=some (x,ps,d)→v.data.toList=x∧[p0,p1,p2,p3,p4,p5,p6]=ps∧b=d
theorem ysM (s:ByteArray) (w:World)  (h:(s.toList==[109])=true):Calls Tryz.prog 112 #[.string s] w (vM (some ([49],[1,0,0,0,0,0,0],true)) w):=by
 go_enter Tryz.func112,Tryz.ntmps112
 go_wp2_with fail
 refine bodyPost_ret (v:=.tuple #[.agg #[.string ⟨#[49]⟩,.int .i64 1,.int .i64 0,.int .i64 0,.int .i64 0,.int .i64 0,.int .i64 0,.int .i64 0,.bool true],.bool true]) (by simp [results,Tryz.results112,go_sem]) rfl ?_
 exact ⟨zK _ _,_,_,_,_,_,_,_,_,_,rfl,by rintro _ _ _ h;cases h;exact ⟨rfl,rfl,rfl⟩⟩
theorem ysN (s:ByteArray) (w:World) (h0:(s.toList==[109])=false) (h:(s.toList==[103])=true):Calls Tryz.prog 112 #[.string s] w (vM (some ([49,47,49,48,48,48],[0,1,0,0,0,0,0],true)) w):=by
 go_enter Tryz.func112,Tryz.ntmps112
 go_wp2_with fail
 refine bodyPost_ret (v:=.tuple #[.agg #[.string ⟨#[49,47,49,48,48,48]⟩,.int .i64 0,.int .i64 1,.int .i64 0,.int .i64 0,.int .i64 0,.int .i64 0,.int .i64 0,.bool true],.bool true]) (by simp [results,Tryz.results112,go_sem]) rfl ?_
 exact ⟨zK _ _,_,_,_,_,_,_,_,_,_,rfl,by rintro _ _ _ h;cases h;exact ⟨rfl,rfl,rfl⟩⟩
theorem ysO (s:ByteArray) (w:World) (h0:(s.toList==[109])=false) (h1:(s.toList==[103])=false) (h:(s.toList==[115])=true):Calls Tryz.prog 112 #[.string s] w (vM (some ([49],[0,0,1,0,0,0,0],true)) w):=by
 go_enter Tryz.func112,Tryz.ntmps112
 go_wp2_with fail
 refine bodyPost_ret (v:=.tuple #[.agg #[.string ⟨#[49]⟩,.int .i64 0,.int .i64 0,.int .i64 1,.int .i64 0,.int .i64 0,.int .i64 0,.int .i64 0,.bool true],.bool true]) (by simp [results,Tryz.results112,go_sem]) rfl ?_
 exact ⟨zK _ _,_,_,_,_,_,_,_,_,_,rfl,by rintro _ _ _ h;cases h;exact ⟨rfl,rfl,rfl⟩⟩
theorem ysP (s:ByteArray) (w:World) (h0:(s.toList==[109])=false) (h1:(s.toList==[103])=false) (h2:(s.toList==[115])=false) (h:(s.toList==[75])=true):Calls Tryz.prog 112 #[.string s] w (vM (some ([49],[0,0,0,1,0,0,0],true)) w):=by
 go_enter Tryz.func112,Tryz.ntmps112
 go_wp2_with fail
 refine bodyPost_ret (v:=.tuple #[.agg #[.string ⟨#[49]⟩,.int .i64 0,.int .i64 0,.int .i64 0,.int .i64 1,.int .i64 0,.int .i64 0,.int .i64 0,.bool true],.bool true]) (by simp [results,Tryz.results112,go_sem]) rfl ?_
 exact ⟨zK _ _,_,_,_,_,_,_,_,_,_,rfl,by rintro _ _ _ h;cases h;exact ⟨rfl,rfl,rfl⟩⟩
theorem ysQ (s:ByteArray) (w:World) (h0:(s.toList==[109])=false) (h1:(s.toList==[103])=false) (h2:(s.toList==[115])=false) (h3:(s.toList==[75])=false) (h:(s.toList==[109,111,108])=true):Calls Tryz.prog 112 #[.string s] w (vM (some ([49],[0,0,0,0,1,0,0],true)) w):=by
 go_enter Tryz.func112,Tryz.ntmps112
 go_wp2_with fail
 refine bodyPost_ret (v:=.tuple #[.agg #[.string ⟨#[49]⟩,.int .i64 0,.int .i64 0,.int .i64 0,.int .i64 0,.int .i64 1,.int .i64 0,.int .i64 0,.bool true],.bool true]) (by simp [results,Tryz.results112,go_sem]) rfl ?_
 exact ⟨zK _ _,_,_,_,_,_,_,_,_,_,rfl,by rintro _ _ _ h;cases h;exact ⟨rfl,rfl,rfl⟩⟩
theorem ysR (s:ByteArray) (w:World) (h0:(s.toList==[109])=false) (h1:(s.toList==[103])=false) (h2:(s.toList==[115])=false) (h3:(s.toList==[75])=false) (h4:(s.toList==[109,111,108])=false) (h:(s.toList==[65])=true):Calls Tryz.prog 112 #[.string s] w (vM (some ([49],[0,0,0,0,0,1,0],true)) w):=by
 go_enter Tryz.func112,Tryz.ntmps112
 go_wp2_with fail
 refine bodyPost_ret (v:=.tuple #[.agg #[.string ⟨#[49]⟩,.int .i64 0,.int .i64 0,.int .i64 0,.int .i64 0,.int .i64 0,.int .i64 1,.int .i64 0,.bool true],.bool true]) (by simp [results,Tryz.results112,go_sem]) rfl ?_
 exact ⟨zK _ _,_,_,_,_,_,_,_,_,_,rfl,by rintro _ _ _ h;cases h;exact ⟨rfl,rfl,rfl⟩⟩
theorem ysS (s:ByteArray) (w:World) (h0:(s.toList==[109])=false) (h1:(s.toList==[103])=false) (h2:(s.toList==[115])=false) (h3:(s.toList==[75])=false) (h4:(s.toList==[109,111,108])=false) (h5:(s.toList==[65])=false) (h:(s.toList==[99,100])=true):Calls Tryz.prog 112 #[.string s] w (vM (some ([49],[0,0,0,0,0,0,1],true)) w):=by
 go_enter Tryz.func112,Tryz.ntmps112
 go_wp2_with fail
 refine bodyPost_ret (v:=.tuple #[.agg #[.string ⟨#[49]⟩,.int .i64 0,.int .i64 0,.int .i64 0,.int .i64 0,.int .i64 0,.int .i64 0,.int .i64 1,.bool true],.bool true]) (by simp [results,Tryz.results112,go_sem]) rfl ?_
 exact ⟨zK _ _,_,_,_,_,_,_,_,_,_,rfl,by rintro _ _ _ h;cases h;exact ⟨rfl,rfl,rfl⟩⟩
theorem ysT (s:ByteArray) (w:World) (h0:(s.toList==[109])=false) (h1:(s.toList==[103])=false) (h2:(s.toList==[115])=false) (h3:(s.toList==[75])=false) (h4:(s.toList==[109,111,108])=false) (h5:(s.toList==[65])=false) (h6:(s.toList==[99,100])=false) (h:(s.toList==[109,105,110])=true):Calls Tryz.prog 112 #[.string s] w (vM (some ([54,48],[0,0,1,0,0,0,0],false)) w):=by
 go_enter Tryz.func112,Tryz.ntmps112
 go_wp2_with fail
 refine bodyPost_ret (v:=.tuple #[.agg #[.string ⟨#[54,48]⟩,.int .i64 0,.int .i64 0,.int .i64 1,.int .i64 0,.int .i64 0,.int .i64 0,.int .i64 0,.bool false],.bool true]) (by simp [results,Tryz.results112,go_sem]) rfl ?_
 exact ⟨zK _ _,_,_,_,_,_,_,_,_,_,rfl,by rintro _ _ _ h;cases h;exact ⟨rfl,rfl,rfl⟩⟩
theorem ysU (s:ByteArray) (w:World) (h0:(s.toList==[109])=false) (h1:(s.toList==[103])=false) (h2:(s.toList==[115])=false) (h3:(s.toList==[75])=false) (h4:(s.toList==[109,111,108])=false) (h5:(s.toList==[65])=false) (h6:(s.toList==[99,100])=false) (h7:(s.toList==[109,105,110])=false) (h:(s.toList==[104])=true):Calls Tryz.prog 112 #[.string s] w (vM (some ([51,54,48,48],[0,0,1,0,0,0,0],false)) w):=by
 go_enter Tryz.func112,Tryz.ntmps112
 go_wp2_with fail
 refine bodyPost_ret (v:=.tuple #[.agg #[.string ⟨#[51,54,48,48]⟩,.int .i64 0,.int .i64 0,.int .i64 1,.int .i64 0,.int .i64 0,.int .i64 0,.int .i64 0,.bool false],.bool true]) (by simp [results,Tryz.results112,go_sem]) rfl ?_
 exact ⟨zK _ _,_,_,_,_,_,_,_,_,_,rfl,by rintro _ _ _ h;cases h;exact ⟨rfl,rfl,rfl⟩⟩
theorem ysV (s:ByteArray) (w:World) (h0:(s.toList==[109])=false) (h1:(s.toList==[103])=false) (h2:(s.toList==[115])=false) (h3:(s.toList==[75])=false) (h4:(s.toList==[109,111,108])=false) (h5:(s.toList==[65])=false) (h6:(s.toList==[99,100])=false) (h7:(s.toList==[109,105,110])=false) (h8:(s.toList==[104])=false) (h:(s.toList==[100])=true):Calls Tryz.prog 112 #[.string s] w (vM (some ([56,54,52,48,48],[0,0,1,0,0,0,0],false)) w):=by
 go_enter Tryz.func112,Tryz.ntmps112
 go_wp2_with fail
 refine bodyPost_ret (v:=.tuple #[.agg #[.string ⟨#[56,54,52,48,48]⟩,.int .i64 0,.int .i64 0,.int .i64 1,.int .i64 0,.int .i64 0,.int .i64 0,.int .i64 0,.bool false],.bool true]) (by simp [results,Tryz.results112,go_sem]) rfl ?_
 exact ⟨zK _ _,_,_,_,_,_,_,_,_,_,rfl,by rintro _ _ _ h;cases h;exact ⟨rfl,rfl,rfl⟩⟩
theorem yr1 (s:ByteArray) (w:World) (h0:(s.toList==[109])=false) (h1:(s.toList==[103])=false) (h2:(s.toList==[115])=false) (h3:(s.toList==[75])=false) (h4:(s.toList==[109,111,108])=false) (h5:(s.toList==[65])=false) (h6:(s.toList==[99,100])=false) (h7:(s.toList==[109,105,110])=false) (h8:(s.toList==[104])=false) (h9:(s.toList==[100])=false) (h:(s.toList==[116])=true):Calls Tryz.prog 112 #[.string s] w (vM (some ([49,48,48,48],[0,1,0,0,0,0,0],true)) w):=by
 go_enter Tryz.func112,Tryz.ntmps112
 go_wp2_with fail
 refine bodyPost_ret (v:=.tuple #[.agg #[.string ⟨#[49,48,48,48]⟩,.int .i64 0,.int .i64 1,.int .i64 0,.int .i64 0,.int .i64 0,.int .i64 0,.int .i64 0,.bool true],.bool true]) (by simp [results,Tryz.results112,go_sem]) rfl ?_
 exact ⟨zK _ _,_,_,_,_,_,_,_,_,_,rfl,by rintro _ _ _ h;cases h;exact ⟨rfl,rfl,rfl⟩⟩
theorem yr2 (s:ByteArray) (w:World) (h0:(s.toList==[109])=false) (h1:(s.toList==[103])=false) (h2:(s.toList==[115])=false) (h3:(s.toList==[75])=false) (h4:(s.toList==[109,111,108])=false) (h5:(s.toList==[65])=false) (h6:(s.toList==[99,100])=false) (h7:(s.toList==[109,105,110])=false) (h8:(s.toList==[104])=false) (h9:(s.toList==[100])=false) (h10:(s.toList==[116])=false) (h:(s.toList==[76])=true):Calls Tryz.prog 112 #[.string s] w (vM (some ([49,47,49,48,48,48],[3,0,0,0,0,0,0],true)) w):=by
 go_enter Tryz.func112,Tryz.ntmps112
 go_wp2_with fail
 refine bodyPost_ret (v:=.tuple #[.agg #[.string ⟨#[49,47,49,48,48,48]⟩,.int .i64 3,.int .i64 0,.int .i64 0,.int .i64 0,.int .i64 0,.int .i64 0,.int .i64 0,.bool true],.bool true]) (by simp [results,Tryz.results112,go_sem]) rfl ?_
 exact ⟨zK _ _,_,_,_,_,_,_,_,_,_,rfl,by rintro _ _ _ h;cases h;exact ⟨rfl,rfl,rfl⟩⟩
theorem yr3 (s:ByteArray) (w:World) (h0:(s.toList==[109])=false) (h1:(s.toList==[103])=false) (h2:(s.toList==[115])=false) (h3:(s.toList==[75])=false) (h4:(s.toList==[109,111,108])=false) (h5:(s.toList==[65])=false) (h6:(s.toList==[99,100])=false) (h7:(s.toList==[109,105,110])=false) (h8:(s.toList==[104])=false) (h9:(s.toList==[100])=false) (h10:(s.toList==[116])=false) (h11:(s.toList==[76])=false) (h:(s.toList==[72,122])=true):Calls Tryz.prog 112 #[.string s] w (vM (some ([49],[0,0,-1,0,0,0,0],true)) w):=by
 go_enter Tryz.func112,Tryz.ntmps112
 go_wp2_with fail
 refine bodyPost_ret (v:=.tuple #[.agg #[.string ⟨#[49]⟩,.int .i64 0,.int .i64 0,.int .i64 (-1),.int .i64 0,.int .i64 0,.int .i64 0,.int .i64 0,.bool true],.bool true]) (by simp [results,Tryz.results112,go_sem]) rfl ?_
 exact ⟨zK _ _,_,_,_,_,_,_,_,_,_,rfl,by rintro _ _ _ h;cases h;exact ⟨rfl,rfl,rfl⟩⟩
theorem yr4 (s:ByteArray) (w:World) (h0:(s.toList==[109])=false) (h1:(s.toList==[103])=false) (h2:(s.toList==[115])=false) (h3:(s.toList==[75])=false) (h4:(s.toList==[109,111,108])=false) (h5:(s.toList==[65])=false) (h6:(s.toList==[99,100])=false) (h7:(s.toList==[109,105,110])=false) (h8:(s.toList==[104])=false) (h9:(s.toList==[100])=false) (h10:(s.toList==[116])=false) (h11:(s.toList==[76])=false) (h12:(s.toList==[72,122])=false) (h:(s.toList==[78])=true):Calls Tryz.prog 112 #[.string s] w (vM (some ([49],[1,1,-2,0,0,0,0],true)) w):=by
 go_enter Tryz.func112,Tryz.ntmps112
 go_wp2_with fail
 refine bodyPost_ret (v:=.tuple #[.agg #[.string ⟨#[49]⟩,.int .i64 1,.int .i64 1,.int .i64 (-2),.int .i64 0,.int .i64 0,.int .i64 0,.int .i64 0,.bool true],.bool true]) (by simp [results,Tryz.results112,go_sem]) rfl ?_
 exact ⟨zK _ _,_,_,_,_,_,_,_,_,_,rfl,by rintro _ _ _ h;cases h;exact ⟨rfl,rfl,rfl⟩⟩
theorem yr5 (s:ByteArray) (w:World) (h0:(s.toList==[109])=false) (h1:(s.toList==[103])=false) (h2:(s.toList==[115])=false) (h3:(s.toList==[75])=false) (h4:(s.toList==[109,111,108])=false) (h5:(s.toList==[65])=false) (h6:(s.toList==[99,100])=false) (h7:(s.toList==[109,105,110])=false) (h8:(s.toList==[104])=false) (h9:(s.toList==[100])=false) (h10:(s.toList==[116])=false) (h11:(s.toList==[76])=false) (h12:(s.toList==[72,122])=false) (h13:(s.toList==[78])=false) (h:(s.toList==[80,97])=true):Calls Tryz.prog 112 #[.string s] w (vM (some ([49],[-1,1,-2,0,0,0,0],true)) w):=by
 go_enter Tryz.func112,Tryz.ntmps112
 go_wp2_with fail
 refine bodyPost_ret (v:=.tuple #[.agg #[.string ⟨#[49]⟩,.int .i64 (-1),.int .i64 1,.int .i64 (-2),.int .i64 0,.int .i64 0,.int .i64 0,.int .i64 0,.bool true],.bool true]) (by simp [results,Tryz.results112,go_sem]) rfl ?_
 exact ⟨zK _ _,_,_,_,_,_,_,_,_,_,rfl,by rintro _ _ _ h;cases h;exact ⟨rfl,rfl,rfl⟩⟩
theorem yr6 (s:ByteArray) (w:World) (h0:(s.toList==[109])=false) (h1:(s.toList==[103])=false) (h2:(s.toList==[115])=false) (h3:(s.toList==[75])=false) (h4:(s.toList==[109,111,108])=false) (h5:(s.toList==[65])=false) (h6:(s.toList==[99,100])=false) (h7:(s.toList==[109,105,110])=false) (h8:(s.toList==[104])=false) (h9:(s.toList==[100])=false) (h10:(s.toList==[116])=false) (h11:(s.toList==[76])=false) (h12:(s.toList==[72,122])=false) (h13:(s.toList==[78])=false) (h14:(s.toList==[80,97])=false) (h:(s.toList==[74])=true):Calls Tryz.prog 112 #[.string s] w (vM (some ([49],[2,1,-2,0,0,0,0],true)) w):=by
 go_enter Tryz.func112,Tryz.ntmps112
 go_wp2_with fail
 refine bodyPost_ret (v:=.tuple #[.agg #[.string ⟨#[49]⟩,.int .i64 2,.int .i64 1,.int .i64 (-2),.int .i64 0,.int .i64 0,.int .i64 0,.int .i64 0,.bool true],.bool true]) (by simp [results,Tryz.results112,go_sem]) rfl ?_
 exact ⟨zK _ _,_,_,_,_,_,_,_,_,_,rfl,by rintro _ _ _ h;cases h;exact ⟨rfl,rfl,rfl⟩⟩
theorem yr7 (s:ByteArray) (w:World) (h0:(s.toList==[109])=false) (h1:(s.toList==[103])=false) (h2:(s.toList==[115])=false) (h3:(s.toList==[75])=false) (h4:(s.toList==[109,111,108])=false) (h5:(s.toList==[65])=false) (h6:(s.toList==[99,100])=false) (h7:(s.toList==[109,105,110])=false) (h8:(s.toList==[104])=false) (h9:(s.toList==[100])=false) (h10:(s.toList==[116])=false) (h11:(s.toList==[76])=false) (h12:(s.toList==[72,122])=false) (h13:(s.toList==[78])=false) (h14:(s.toList==[80,97])=false) (h15:(s.toList==[74])=false) (h:(s.toList==[87])=true):Calls Tryz.prog 112 #[.string s] w (vM (some ([49],[2,1,-3,0,0,0,0],true)) w):=by
 go_enter Tryz.func112,Tryz.ntmps112
 go_wp2_with fail
 refine bodyPost_ret (v:=.tuple #[.agg #[.string ⟨#[49]⟩,.int .i64 2,.int .i64 1,.int .i64 (-3),.int .i64 0,.int .i64 0,.int .i64 0,.int .i64 0,.bool true],.bool true]) (by simp [results,Tryz.results112,go_sem]) rfl ?_
 exact ⟨zK _ _,_,_,_,_,_,_,_,_,_,rfl,by rintro _ _ _ h;cases h;exact ⟨rfl,rfl,rfl⟩⟩
theorem yr8 (s:ByteArray) (w:World) (h0:(s.toList==[109])=false) (h1:(s.toList==[103])=false) (h2:(s.toList==[115])=false) (h3:(s.toList==[75])=false) (h4:(s.toList==[109,111,108])=false) (h5:(s.toList==[65])=false) (h6:(s.toList==[99,100])=false) (h7:(s.toList==[109,105,110])=false) (h8:(s.toList==[104])=false) (h9:(s.toList==[100])=false) (h10:(s.toList==[116])=false) (h11:(s.toList==[76])=false) (h12:(s.toList==[72,122])=false) (h13:(s.toList==[78])=false) (h14:(s.toList==[80,97])=false) (h15:(s.toList==[74])=false) (h16:(s.toList==[87])=false) (h:(s.toList==[98,97,114])=true):Calls Tryz.prog 112 #[.string s] w (vM (some ([49,48,48,48,48,48],[-1,1,-2,0,0,0,0],true)) w):=by
 go_enter Tryz.func112,Tryz.ntmps112
 go_wp2_with fail
 refine bodyPost_ret (v:=.tuple #[.agg #[.string ⟨#[49,48,48,48,48,48]⟩,.int .i64 (-1),.int .i64 1,.int .i64 (-2),.int .i64 0,.int .i64 0,.int .i64 0,.int .i64 0,.bool true],.bool true]) (by simp [results,Tryz.results112,go_sem]) rfl ?_
 exact ⟨zK _ _,_,_,_,_,_,_,_,_,_,rfl,by rintro _ _ _ h;cases h;exact ⟨rfl,rfl,rfl⟩⟩
theorem ypH (s:ByteArray) (w:World) (h0:(s.toList==[109])=false) (h1:(s.toList==[103])=false) (h2:(s.toList==[115])=false) (h3:(s.toList==[75])=false) (h4:(s.toList==[109,111,108])=false) (h5:(s.toList==[65])=false) (h6:(s.toList==[99,100])=false) (h7:(s.toList==[109,105,110])=false) (h8:(s.toList==[104])=false) (h9:(s.toList==[100])=false) (h10:(s.toList==[116])=false) (h11:(s.toList==[76])=false) (h12:(s.toList==[72,122])=false) (h13:(s.toList==[78])=false) (h14:(s.toList==[80,97])=false) (h15:(s.toList==[74])=false) (h16:(s.toList==[87])=false) (h17:(s.toList==[98,97,114])=false):Calls Tryz.prog 112 #[.string s] w (vM none w):=by
 go_enter Tryz.func112,Tryz.ntmps112
 go_wp2_with fail
 refine bodyPost_ret (v:=.tuple #[.agg #[.string ⟨#[]⟩,.int .i64 0,.int .i64 0,.int .i64 0,.int .i64 0,.int .i64 0,.int .i64 0,.int .i64 0,.bool false],.bool false]) (by simp [results,Tryz.results112,go_sem]) rfl ?_
 exact ⟨zK _ _,_,_,_,_,_,_,_,_,_,rfl,by rintro _ _ _ h;cases h⟩
theorem yfK (s:ByteArray) (w:World):Calls Tryz.prog 112 #[.string s] w (vM (yas s.data.toList) w):=by
 unfold yas
 rw [← Lib.toList_data]
 cases h0:(s.toList==[109]) with
 | true=>exact ysM s w  h0
 | false =>
 cases h1:(s.toList==[103]) with
 | true=>exact ysN s w h0 h1
 | false =>
 cases h2:(s.toList==[115]) with
 | true=>exact ysO s w h0 h1 h2
 | false =>
 cases h3:(s.toList==[75]) with
 | true=>exact ysP s w h0 h1 h2 h3
 | false =>
 cases h4:(s.toList==[109,111,108]) with
 | true=>exact ysQ s w h0 h1 h2 h3 h4
 | false =>
 cases h5:(s.toList==[65]) with
 | true=>exact ysR s w h0 h1 h2 h3 h4 h5
 | false =>
 cases h6:(s.toList==[99,100]) with
 | true=>exact ysS s w h0 h1 h2 h3 h4 h5 h6
 | false =>
 cases h7:(s.toList==[109,105,110]) with
 | true=>exact ysT s w h0 h1 h2 h3 h4 h5 h6 h7
 | false =>
 cases h8:(s.toList==[104]) with
 | true=>exact ysU s w h0 h1 h2 h3 h4 h5 h6 h7 h8
 | false =>
 cases h9:(s.toList==[100]) with
 | true=>exact ysV s w h0 h1 h2 h3 h4 h5 h6 h7 h8 h9
 | false =>
 cases h10:(s.toList==[116]) with
 | true=>exact yr1 s w h0 h1 h2 h3 h4 h5 h6 h7 h8 h9 h10
 | false =>
 cases h11:(s.toList==[76]) with
 | true=>exact yr2 s w h0 h1 h2 h3 h4 h5 h6 h7 h8 h9 h10 h11
 | false =>
 cases h12:(s.toList==[72,122]) with
 | true=>exact yr3 s w h0 h1 h2 h3 h4 h5 h6 h7 h8 h9 h10 h11 h12
 | false =>
 cases h13:(s.toList==[78]) with
 | true=>exact yr4 s w h0 h1 h2 h3 h4 h5 h6 h7 h8 h9 h10 h11 h12 h13
 | false =>
 cases h14:(s.toList==[80,97]) with
 | true=>exact yr5 s w h0 h1 h2 h3 h4 h5 h6 h7 h8 h9 h10 h11 h12 h13 h14
 | false =>
 cases h15:(s.toList==[74]) with
 | true=>exact yr6 s w h0 h1 h2 h3 h4 h5 h6 h7 h8 h9 h10 h11 h12 h13 h14 h15
 | false =>
 cases h16:(s.toList==[87]) with
 | true=>exact yr7 s w h0 h1 h2 h3 h4 h5 h6 h7 h8 h9 h10 h11 h12 h13 h14 h15 h16
 | false =>
 cases h17:(s.toList==[98,97,114]) with
 | true=>exact yr8 s w h0 h1 h2 h3 h4 h5 h6 h7 h8 h9 h10 h11 h12 h13 h14 h15 h16 h17
 | false =>
 exact ypH s w h0 h1 h2 h3 h4 h5 h6 h7 h8 h9 h10 h11 h12 h13 h14 h15 h16 h17
def vP (v:Value):Prop:=∀ n,v≠.int .u64 n
theorem jI (b:Bool):vP (.bool b):=fun _ h=>by cases h
theorem zA (p:Option Addr) (n c:Nat):vP (.slice p n c):=fun _ h=>by cases h
theorem yD (n:Int):vP (.int .i64 n):=fun _ h=>by cases h
theorem yjc {W:World} {g:Nat} {c:Array Value} {T:TypeId} (hz:W.heap[g]?=some (.cells c T (0,0))) (hc:∀ (i:Nat) v,c[i]?=some v→vP v) {v:Value} {x:Nat} (hx:yH W v x) (k:Nat) (a:Value):yH (W.setCell ⟨g,k,none⟩ a) v x:=by
 obtain ⟨p,n,c',l,h1,h2,hr,h4⟩:=hx
 refine ⟨p,n,c',l,h1,h2,⟨hr.len,?_⟩,h4⟩
 rcases hr.cell with h0|⟨b,off,hp,hlt,hcl⟩
 ·exact .inl h0
 ·by_cases hn:n=0
  ·exact .inl hn
  refine .inr ⟨b,off,hp,by rw [World.size_setCell];exact hlt,fun j hj=>?_⟩
  have hne:b≠g:=by
   rintro rfl
   have h1:=hcl 0 (by omega)
   rw [yB hz] at h1
   exact hc _ _ h1 _ rfl
  rw [← hcl j hj]
  exact World.cell?_of_block (w:=W) (Below.heap_setCell _ _ _ _ hne)
theorem vX {W:World} {g:Nat} {c:Array Value} {T:TypeId} (hz:W.heap[g]?=some (.cells c T (0,0))) (hc:∀ (i:Nat) v,c[i]?=some v→vP v) {x:Value} {q:Rat} {K:Nat} (hx:zM W x q K) (k:Nat) (a:Value):zM (W.setCell ⟨g,k,none⟩ a) x q K:=by
 obtain ⟨s,m,n,⟨u,v,rfl,hu,hv,hs⟩,hr⟩:=hx
 exact ⟨s,m,n,⟨u,v,rfl,yjc hz hc hu k a,yjc hz hc hv k a,hs⟩,hr⟩
structure ResF (B:Nat) (w0 W:World):Prop where
 below:Below w0.heap.size w0 W
 z:∃ z0 z1 z2 z3 z4 z5 z6 z7 z8 z9 z10:Value,W.heap[B]?=some (.cells #[z0,z1,z2,z3,z4,z5,z6,z7,z8,z9,z10] 66 (0,0))∧vP z0∧vP z1∧vP z2∧vP z3∧vP z4∧vP z5∧vP z6∧vP z7∧vP z8∧vP z9∧vP z10
theorem yab {z0 z1 z2 z3 z4 z5 z6 z7 z8 z9 z10:Value} (h:vP z0∧vP z1∧vP z2∧vP z3∧vP z4∧vP z5∧vP z6∧vP z7∧vP z8∧vP z9∧vP z10):∀ (i:Nat) v,(#[z0,z1,z2,z3,z4,z5,z6,z7,z8,z9,z10]:Array Value)[i]?=some v→vP v:=by
 obtain ⟨h0,h1,h2,h3,h4,h5,h6,h7,h8,h9,h10⟩:=h
 intro i v hv
 match i,hv with
 | 0,hv=>simp at hv;exact hv ▸ h0
 | 1,hv=>simp at hv;exact hv ▸ h1
 | 2,hv=>simp at hv;exact hv ▸ h2
 | 3,hv=>simp at hv;exact hv ▸ h3
 | 4,hv=>simp at hv;exact hv ▸ h4
 | 5,hv=>simp at hv;exact hv ▸ h5
 | 6,hv=>simp at hv;exact hv ▸ h6
 | 7,hv=>simp at hv;exact hv ▸ h7
 | 8,hv=>simp at hv;exact hv ▸ h8
 | 9,hv=>simp at hv;exact hv ▸ h9
 | 10,hv=>simp at hv;exact hv ▸ h10
 | k+11,hv=>simp at hv
section
variable {B : Nat} {w0 W W' : World}
theorem ResF.lt (h:ResF B w0 W):B<W.heap.size:=by
 obtain ⟨z0,z1,z2,z3,z4,z5,z6,z7,z8,z9,z10,hz,-⟩:=h.z
 exact (Array.getElem?_eq_some_iff.1 hz).1
theorem ResF.next (h:ResF B w0 W) (hb:Below W.heap.size W W'):ResF B w0 W':=by
 obtain ⟨z0,z1,z2,z3,z4,z5,z6,z7,z8,z9,z10,hz,hn⟩:=h.z
 exact ⟨h.below.trans (hb.mono h.below.size),z0,z1,z2,z3,z4,z5,z6,z7,z8,z9,z10,(hb.block _ h.lt).trans hz,hn⟩
theorem ResF.drew (h:ResF B w0 W):ResF B w0 W.drew:=⟨h.below.drew,h.z⟩
theorem ResF.slots (h:ResF B w0 W):∃ z0 z1 z2 z3 z4 z5 z6 z7 z8 z9 z10:Value,(W.cell? ⟨B,0,none⟩=some z0∧W.cell? ⟨B,1,none⟩=some z1∧W.cell? ⟨B,2,none⟩=some z2∧W.cell? ⟨B,3,none⟩=some z3∧W.cell? ⟨B,4,none⟩=some z4∧W.cell? ⟨B,5,none⟩=some z5∧W.cell? ⟨B,6,none⟩=some z6∧W.cell? ⟨B,7,none⟩=some z7∧W.cell? ⟨B,8,none⟩=some z8∧W.cell? ⟨B,9,none⟩=some z9∧W.cell? ⟨B,10,none⟩=some z10)∧(W.frozen? ⟨B,0,none⟩=false∧W.frozen? ⟨B,1,none⟩=false∧W.frozen? ⟨B,2,none⟩=false∧W.frozen? ⟨B,3,none⟩=false∧W.frozen? ⟨B,4,none⟩=false∧W.frozen? ⟨B,5,none⟩=false∧W.frozen? ⟨B,6,none⟩=false∧W.frozen? ⟨B,7,none⟩=false∧W.frozen? ⟨B,8,none⟩=false∧W.frozen? ⟨B,9,none⟩=false∧W.frozen? ⟨B,10,none⟩=false):=by
 obtain ⟨z0,z1,z2,z3,z4,z5,z6,z7,z8,z9,z10,hz,-⟩:=h.z
 exact ⟨z0,z1,z2,z3,z4,z5,z6,z7,z8,z9,z10,⟨yB hz 0,yB hz 1,yB hz 2,yB hz 3,yB hz 4,yB hz 5,yB hz 6,yB hz 7,yB hz 8,yB hz 9,yB hz 10⟩,⟨vB hz 0,vB hz 1,vB hz 2,vB hz 3,vB hz 4,vB hz 5,vB hz 6,vB hz 7,vB hz 8,vB hz 9,vB hz 10⟩⟩
theorem ResF.put (h:ResF B w0 W) (hB:w0.heap.size≤B) (a0 a1 a2 a3 a4 a5 a6 a7 a8 a9 a10:Value) (hn:vP a0∧vP a1∧vP a2∧vP a3∧vP a4∧vP a5∧vP a6∧vP a7∧vP a8∧vP a9∧vP a10):ResF B w0 ((((((((((((W).setCell ⟨B,0,none⟩ a0).setCell ⟨B,1,none⟩ a1).setCell ⟨B,2,none⟩ a2).setCell ⟨B,3,none⟩ a3).setCell ⟨B,4,none⟩ a4).setCell ⟨B,5,none⟩ a5).setCell ⟨B,6,none⟩ a6).setCell ⟨B,7,none⟩ a7).setCell ⟨B,8,none⟩ a8).setCell ⟨B,9,none⟩ a9).setCell ⟨B,10,none⟩ a10)∧((((((((((((W).setCell ⟨B,0,none⟩ a0).setCell ⟨B,1,none⟩ a1).setCell ⟨B,2,none⟩ a2).setCell ⟨B,3,none⟩ a3).setCell ⟨B,4,none⟩ a4).setCell ⟨B,5,none⟩ a5).setCell ⟨B,6,none⟩ a6).setCell ⟨B,7,none⟩ a7).setCell ⟨B,8,none⟩ a8).setCell ⟨B,9,none⟩ a9).setCell ⟨B,10,none⟩ a10).heap[B]?=some (.cells #[a0,a1,a2,a3,a4,a5,a6,a7,a8,a9,a10] 66 (0,0)):=by
 obtain ⟨z0,z1,z2,z3,z4,z5,z6,z7,z8,z9,z10,hz,-⟩:=h.z
 have hh:((((((((((((W).setCell ⟨B,0,none⟩ a0).setCell ⟨B,1,none⟩ a1).setCell ⟨B,2,none⟩ a2).setCell ⟨B,3,none⟩ a3).setCell ⟨B,4,none⟩ a4).setCell ⟨B,5,none⟩ a5).setCell ⟨B,6,none⟩ a6).setCell ⟨B,7,none⟩ a7).setCell ⟨B,8,none⟩ a8).setCell ⟨B,9,none⟩ a9).setCell ⟨B,10,none⟩ a10).heap[B]?=some (.cells #[a0,a1,a2,a3,a4,a5,a6,a7,a8,a9,a10] 66 (0,0)):=by
  have h0:((W).setCell ⟨B,0,none⟩ a0).heap[B]?=some (.cells #[a0,z1,z2,z3,z4,z5,z6,z7,z8,z9,z10] 66 (0,0)):=yK B 0 _ 66 a0 hz
  have h1:(((W).setCell ⟨B,0,none⟩ a0).setCell ⟨B,1,none⟩ a1).heap[B]?=some (.cells #[a0,a1,z2,z3,z4,z5,z6,z7,z8,z9,z10] 66 (0,0)):=yK B 1 _ 66 a1 h0
  have h2:((((W).setCell ⟨B,0,none⟩ a0).setCell ⟨B,1,none⟩ a1).setCell ⟨B,2,none⟩ a2).heap[B]?=some (.cells #[a0,a1,a2,z3,z4,z5,z6,z7,z8,z9,z10] 66 (0,0)):=yK B 2 _ 66 a2 h1
  have h3:(((((W).setCell ⟨B,0,none⟩ a0).setCell ⟨B,1,none⟩ a1).setCell ⟨B,2,none⟩ a2).setCell ⟨B,3,none⟩ a3).heap[B]?=some (.cells #[a0,a1,a2,a3,z4,z5,z6,z7,z8,z9,z10] 66 (0,0)):=yK B 3 _ 66 a3 h2
  have h4:((((((W).setCell ⟨B,0,none⟩ a0).setCell ⟨B,1,none⟩ a1).setCell ⟨B,2,none⟩ a2).setCell ⟨B,3,none⟩ a3).setCell ⟨B,4,none⟩ a4).heap[B]?=some (.cells #[a0,a1,a2,a3,a4,z5,z6,z7,z8,z9,z10] 66 (0,0)):=yK B 4 _ 66 a4 h3
  have h5:(((((((W).setCell ⟨B,0,none⟩ a0).setCell ⟨B,1,none⟩ a1).setCell ⟨B,2,none⟩ a2).setCell ⟨B,3,none⟩ a3).setCell ⟨B,4,none⟩ a4).setCell ⟨B,5,none⟩ a5).heap[B]?=some (.cells #[a0,a1,a2,a3,a4,a5,z6,z7,z8,z9,z10] 66 (0,0)):=yK B 5 _ 66 a5 h4
  have h6:((((((((W).setCell ⟨B,0,none⟩ a0).setCell ⟨B,1,none⟩ a1).setCell ⟨B,2,none⟩ a2).setCell ⟨B,3,none⟩ a3).setCell ⟨B,4,none⟩ a4).setCell ⟨B,5,none⟩ a5).setCell ⟨B,6,none⟩ a6).heap[B]?=some (.cells #[a0,a1,a2,a3,a4,a5,a6,z7,z8,z9,z10] 66 (0,0)):=yK B 6 _ 66 a6 h5
  have h7:(((((((((W).setCell ⟨B,0,none⟩ a0).setCell ⟨B,1,none⟩ a1).setCell ⟨B,2,none⟩ a2).setCell ⟨B,3,none⟩ a3).setCell ⟨B,4,none⟩ a4).setCell ⟨B,5,none⟩ a5).setCell ⟨B,6,none⟩ a6).setCell ⟨B,7,none⟩ a7).heap[B]?=some (.cells #[a0,a1,a2,a3,a4,a5,a6,a7,z8,z9,z10] 66 (0,0)):=yK B 7 _ 66 a7 h6
  have h8:((((((((((W).setCell ⟨B,0,none⟩ a0).setCell ⟨B,1,none⟩ a1).setCell ⟨B,2,none⟩ a2).setCell ⟨B,3,none⟩ a3).setCell ⟨B,4,none⟩ a4).setCell ⟨B,5,none⟩ a5).setCell ⟨B,6,none⟩ a6).setCell ⟨B,7,none⟩ a7).setCell ⟨B,8,none⟩ a8).heap[B]?=some (.cells #[a0,a1,a2,a3,a4,a5,a6,a7,a8,z9,z10] 66 (0,0)):=yK B 8 _ 66 a8 h7
  have h9:(((((((((((W).setCell ⟨B,0,none⟩ a0).setCell ⟨B,1,none⟩ a1).setCell ⟨B,2,none⟩ a2).setCell ⟨B,3,none⟩ a3).setCell ⟨B,4,none⟩ a4).setCell ⟨B,5,none⟩ a5).setCell ⟨B,6,none⟩ a6).setCell ⟨B,7,none⟩ a7).setCell ⟨B,8,none⟩ a8).setCell ⟨B,9,none⟩ a9).heap[B]?=some (.cells #[a0,a1,a2,a3,a4,a5,a6,a7,a8,a9,z10] 66 (0,0)):=yK B 9 _ 66 a9 h8
  have h10:((((((((((((W).setCell ⟨B,0,none⟩ a0).setCell ⟨B,1,none⟩ a1).setCell ⟨B,2,none⟩ a2).setCell ⟨B,3,none⟩ a3).setCell ⟨B,4,none⟩ a4).setCell ⟨B,5,none⟩ a5).setCell ⟨B,6,none⟩ a6).setCell ⟨B,7,none⟩ a7).setCell ⟨B,8,none⟩ a8).setCell ⟨B,9,none⟩ a9).setCell ⟨B,10,none⟩ a10).heap[B]?=some (.cells #[a0,a1,a2,a3,a4,a5,a6,a7,a8,a9,a10] 66 (0,0)):=yK B 10 _ 66 a10 h9
  exact h10
 exact ⟨⟨(((((((((((h.below).setCell hB _).setCell hB _).setCell hB _).setCell hB _).setCell hB _).setCell hB _).setCell hB _).setCell hB _).setCell hB _).setCell hB _).setCell hB _,a0,a1,a2,a3,a4,a5,a6,a7,a8,a9,a10,hh,hn⟩,hh⟩
theorem ResF.rat (h:ResF B w0 W) {x:Value} {q:Rat} {K:Nat} (hx:zM W x q K) (a0 a1 a2 a3 a4 a5 a6 a7 a8 a9 a10:Value) (hn:vP a0∧vP a1∧vP a2∧vP a3∧vP a4∧vP a5∧vP a6∧vP a7∧vP a8∧vP a9∧vP a10):zM ((((((((((((W).setCell ⟨B,0,none⟩ a0).setCell ⟨B,1,none⟩ a1).setCell ⟨B,2,none⟩ a2).setCell ⟨B,3,none⟩ a3).setCell ⟨B,4,none⟩ a4).setCell ⟨B,5,none⟩ a5).setCell ⟨B,6,none⟩ a6).setCell ⟨B,7,none⟩ a7).setCell ⟨B,8,none⟩ a8).setCell ⟨B,9,none⟩ a9).setCell ⟨B,10,none⟩ a10) x q K:=by
 obtain ⟨z0,z1,z2,z3,z4,z5,z6,z7,z8,z9,z10,hz,hzn⟩:=h.z
 obtain ⟨h0,h1,h2,h3,h4,h5,h6,h7,h8,h9,h10⟩:=hzn
 obtain ⟨g0,g1,g2,g3,g4,g5,g6,g7,g8,g9,g10⟩:=hn
 have x0:=vX hz (yab ⟨h0,h1,h2,h3,h4,h5,h6,h7,h8,h9,h10⟩) hx 0 a0
 have y0:((W).setCell ⟨B,0,none⟩ a0).heap[B]?=some (.cells #[a0,z1,z2,z3,z4,z5,z6,z7,z8,z9,z10] 66 (0,0)):=yK B 0 _ 66 a0 hz
 have x1:=vX y0 (yab ⟨g0,h1,h2,h3,h4,h5,h6,h7,h8,h9,h10⟩) x0 1 a1
 have y1:(((W).setCell ⟨B,0,none⟩ a0).setCell ⟨B,1,none⟩ a1).heap[B]?=some (.cells #[a0,a1,z2,z3,z4,z5,z6,z7,z8,z9,z10] 66 (0,0)):=yK B 1 _ 66 a1 y0
 have x2:=vX y1 (yab ⟨g0,g1,h2,h3,h4,h5,h6,h7,h8,h9,h10⟩) x1 2 a2
 have y2:((((W).setCell ⟨B,0,none⟩ a0).setCell ⟨B,1,none⟩ a1).setCell ⟨B,2,none⟩ a2).heap[B]?=some (.cells #[a0,a1,a2,z3,z4,z5,z6,z7,z8,z9,z10] 66 (0,0)):=yK B 2 _ 66 a2 y1
 have x3:=vX y2 (yab ⟨g0,g1,g2,h3,h4,h5,h6,h7,h8,h9,h10⟩) x2 3 a3
 have y3:(((((W).setCell ⟨B,0,none⟩ a0).setCell ⟨B,1,none⟩ a1).setCell ⟨B,2,none⟩ a2).setCell ⟨B,3,none⟩ a3).heap[B]?=some (.cells #[a0,a1,a2,a3,z4,z5,z6,z7,z8,z9,z10] 66 (0,0)):=yK B 3 _ 66 a3 y2
 have x4:=vX y3 (yab ⟨g0,g1,g2,g3,h4,h5,h6,h7,h8,h9,h10⟩) x3 4 a4
 have y4:((((((W).setCell ⟨B,0,none⟩ a0).setCell ⟨B,1,none⟩ a1).setCell ⟨B,2,none⟩ a2).setCell ⟨B,3,none⟩ a3).setCell ⟨B,4,none⟩ a4).heap[B]?=some (.cells #[a0,a1,a2,a3,a4,z5,z6,z7,z8,z9,z10] 66 (0,0)):=yK B 4 _ 66 a4 y3
 have x5:=vX y4 (yab ⟨g0,g1,g2,g3,g4,h5,h6,h7,h8,h9,h10⟩) x4 5 a5
 have y5:(((((((W).setCell ⟨B,0,none⟩ a0).setCell ⟨B,1,none⟩ a1).setCell ⟨B,2,none⟩ a2).setCell ⟨B,3,none⟩ a3).setCell ⟨B,4,none⟩ a4).setCell ⟨B,5,none⟩ a5).heap[B]?=some (.cells #[a0,a1,a2,a3,a4,a5,z6,z7,z8,z9,z10] 66 (0,0)):=yK B 5 _ 66 a5 y4
 have x6:=vX y5 (yab ⟨g0,g1,g2,g3,g4,g5,h6,h7,h8,h9,h10⟩) x5 6 a6
 have y6:((((((((W).setCell ⟨B,0,none⟩ a0).setCell ⟨B,1,none⟩ a1).setCell ⟨B,2,none⟩ a2).setCell ⟨B,3,none⟩ a3).setCell ⟨B,4,none⟩ a4).setCell ⟨B,5,none⟩ a5).setCell ⟨B,6,none⟩ a6).heap[B]?=some (.cells #[a0,a1,a2,a3,a4,a5,a6,z7,z8,z9,z10] 66 (0,0)):=yK B 6 _ 66 a6 y5
 have x7:=vX y6 (yab ⟨g0,g1,g2,g3,g4,g5,g6,h7,h8,h9,h10⟩) x6 7 a7
 have y7:(((((((((W).setCell ⟨B,0,none⟩ a0).setCell ⟨B,1,none⟩ a1).setCell ⟨B,2,none⟩ a2).setCell ⟨B,3,none⟩ a3).setCell ⟨B,4,none⟩ a4).setCell ⟨B,5,none⟩ a5).setCell ⟨B,6,none⟩ a6).setCell ⟨B,7,none⟩ a7).heap[B]?=some (.cells #[a0,a1,a2,a3,a4,a5,a6,a7,z8,z9,z10] 66 (0,0)):=yK B 7 _ 66 a7 y6
 have x8:=vX y7 (yab ⟨g0,g1,g2,g3,g4,g5,g6,g7,h8,h9,h10⟩) x7 8 a8
 have y8:((((((((((W).setCell ⟨B,0,none⟩ a0).setCell ⟨B,1,none⟩ a1).setCell ⟨B,2,none⟩ a2).setCell ⟨B,3,none⟩ a3).setCell ⟨B,4,none⟩ a4).setCell ⟨B,5,none⟩ a5).setCell ⟨B,6,none⟩ a6).setCell ⟨B,7,none⟩ a7).setCell ⟨B,8,none⟩ a8).heap[B]?=some (.cells #[a0,a1,a2,a3,a4,a5,a6,a7,a8,z9,z10] 66 (0,0)):=yK B 8 _ 66 a8 y7
 have x9:=vX y8 (yab ⟨g0,g1,g2,g3,g4,g5,g6,g7,g8,h9,h10⟩) x8 9 a9
 have y9:(((((((((((W).setCell ⟨B,0,none⟩ a0).setCell ⟨B,1,none⟩ a1).setCell ⟨B,2,none⟩ a2).setCell ⟨B,3,none⟩ a3).setCell ⟨B,4,none⟩ a4).setCell ⟨B,5,none⟩ a5).setCell ⟨B,6,none⟩ a6).setCell ⟨B,7,none⟩ a7).setCell ⟨B,8,none⟩ a8).setCell ⟨B,9,none⟩ a9).heap[B]?=some (.cells #[a0,a1,a2,a3,a4,a5,a6,a7,a8,a9,z10] 66 (0,0)):=yK B 9 _ 66 a9 y8
 have x10:=vX y9 (yab ⟨g0,g1,g2,g3,g4,g5,g6,g7,g8,g9,h10⟩) x9 10 a10
 have y10:((((((((((((W).setCell ⟨B,0,none⟩ a0).setCell ⟨B,1,none⟩ a1).setCell ⟨B,2,none⟩ a2).setCell ⟨B,3,none⟩ a3).setCell ⟨B,4,none⟩ a4).setCell ⟨B,5,none⟩ a5).setCell ⟨B,6,none⟩ a6).setCell ⟨B,7,none⟩ a7).setCell ⟨B,8,none⟩ a8).setCell ⟨B,9,none⟩ a9).setCell ⟨B,10,none⟩ a10).heap[B]?=some (.cells #[a0,a1,a2,a3,a4,a5,a6,a7,a8,a9,a10] 66 (0,0)):=yK B 10 _ 66 a10 y9
 exact x10
theorem ResF.start (w:World):ResF w.heap.size w (w.alloc (.cells #[.bool false,.slice none 0 0,.slice none 0 0,.int .i64 0,.int .i64 0,.int .i64 0,.int .i64 0,.int .i64 0,.int .i64 0,.int .i64 0,.int .i64 0] 66)) :=
 ⟨zK _ _,_,_,_,_,_,_,_,_,_,_,_,yV _ _,jI _,zA _ _ _,zA _ _ _,yD _,yD _,yD _,yD _,yD _,yD _,yD _,yD _⟩
theorem Keep.putF_far {L:List Blk} (h:Keep w0 W L) (hB:w0.heap.size≤B) (hne:∀ x ∈ L,x.1≠B) (a0 a1 a2 a3 a4 a5 a6 a7 a8 a9 a10:Value):Keep w0 ((((((((((((W).setCell ⟨B,0,none⟩ a0).setCell ⟨B,1,none⟩ a1).setCell ⟨B,2,none⟩ a2).setCell ⟨B,3,none⟩ a3).setCell ⟨B,4,none⟩ a4).setCell ⟨B,5,none⟩ a5).setCell ⟨B,6,none⟩ a6).setCell ⟨B,7,none⟩ a7).setCell ⟨B,8,none⟩ a8).setCell ⟨B,9,none⟩ a9).setCell ⟨B,10,none⟩ a10) L :=
 have one:∀ {W:World} (k:Nat) (v:Value),Keep w0 W L→Keep w0 (W.setCell ⟨B,k,none⟩ v) L:=fun _k _v h=>⟨h.below.setCell hB _,fun x hx=>(Below.heap_setCell _ _ _ _ (hne x hx)).trans (h.all x hx)⟩
 one 10 a10 (one 9 a9 (one 8 a8 (one 7 a7 (one 6 a6 (one 5 a5 (one 4 a4 (one 3 a3 (one 2 a2 (one 1 a1 (one 0 a0 h))))))))))
end
theorem ygY (s:ByteArray) (sg:Bool) (n d:Nat) (w:World) (hl:s.size≤90) (hr:jL s.data.toList=some (sg,n,d)):Calls Tryz.prog 84 #[.string s] w (jX (yO s.data.toList) 20 w):=by
 have hrd:Hid (∀ W,Calls Tryz.prog 74 #[.string s] W fun e w'=>Below W.heap.size W w'∧∃ b p n c q m d,e=.returned (.tuple #[.agg #[.bool b,.slice p n c,.slice q m d],.bool true])∧zM w' (.agg #[.bool b,.slice p n c,.slice q m d]) (yO s.data.toList) 20):=yA fun W=>by
  refine (yfi s W (by omega)).mono fun e w' h=>⟨h.1,?_⟩
  have h2:=h.2
  rw [hr] at h2
  obtain ⟨x,rfl,u,v,rfl,hu,hv,hs⟩:=h2
  obtain ⟨p,n1,c,rfl⟩:=hu.slice
  obtain ⟨q,m1,d1,rfl⟩:=hv.slice
  obtain ⟨b1,b2,b3⟩:=yfj hr (by simpa using hl)
  refine ⟨_,_,_,_,_,_,_,rfl,_,_,_,⟨_,_,rfl,hu,hv,hs⟩,?_,b3,b1,b2⟩
  rw [vO];unfold yO;rw [hr]
 generalize yO s.data.toList=r at hrd ⊢
 have yP:=yA (Res.start w)
 clear hr hl
 go_enter Tryz.func84,Tryz.ntmps84
 go_wp2_with fail
 refine (hrd.out _).mono ?_
 rintro e w2 ⟨hb2,b1,p,n,c,q,m,d,rfl,hR⟩
 have uY:=(yP.out.next hb2).next (zK w2 (.cells #[.bool b1,.slice p n c,.slice q m d] 64))
 have hR3:=yA (hR.below (zK w2 (.cells #[.bool b1,.slice p n c,.slice q m d] 64)))
 obtain ⟨z0,z1,z2,l0,l1,l2,f0,f1,f2⟩:=uY.slots
 have Hres3:=yA uY
 clear hb2 hR uY
 have yE:Hid (∀ W,W=((((w2.alloc (.cells #[.bool b1,.slice p n c,.slice q m d] 64)).setCell ⟨w.heap.size,0,none⟩ (.bool b1)).setCell ⟨w.heap.size,1,none⟩ (.slice p n c)).setCell ⟨w.heap.size,2,none⟩ (.slice q m d))→jX r 20 w (.returned (.agg #[.bool b1,.slice p n c,.slice q m d])) W):=yA (by
  rintro W rfl
  obtain ⟨s,x,y,⟨u,v,e1,hu,hv,hs⟩,ya8⟩:=hR3.out
  cases e1
  exact ⟨_,rfl,⟨b1,x,y,⟨_,_,rfl,Hres3.out.nat3 (Nat.le_refl _) hu b1 p q n c m d,Hres3.out.nat3 (Nat.le_refl _) hv b1 p q n c m d,hs⟩,ya8⟩,(Hres3.out.put3 (Nat.le_refl _) b1 p q n c m d).below⟩)
 go_wp2_with fail
 refine bodyPost_ret (v:=.agg #[.bool b1,.slice p n c,.slice q m d]) (by simp [results,Tryz.results84,go_sem,l0,l1,l2]) rfl ?_
 exact yE.out _ rfl
end
end Go.Proofs.YtfjnipkpfbkegaaGreatDoor
