/- Indexes: which lists are indexes of a shape, and their places. -/
import Derived.Test.YtlcpcpmlfegejaaGreatDoorGB
import Derived.BigQuiet
import Derived.Deep.QuietTactic
import Derived.Deep.RegionHeld3
import Derived.RangeFuncFrom
set_option maxHeartbeats 1000000
set_option maxRecDepth 100000
namespace Go.Proofs.YtlcpcpmlfegejaaGreatDoor.Arr
open Go.RowKit
open Go.Lib
def plc:List Nat→List Nat→Nat→Nat
 | s::ss,i::is,a=>plc ss is (a*s+i)
 | _,_,a=>a
def IsIx (s l:List Nat):Prop:=l.length=s.length∧∀ k,k<s.length→l.getD k 0<s.getD k 0
theorem plc_nil (a:Nat):plc [] [] a=a:=rfl
theorem plc_step:∀ (s l:List Nat) (i a:Nat),i<s.length→l.length=s.length→plc (s.drop i) (l.drop i) a=plc (s.drop (i+1)) (l.drop (i+1)) (a*s.getD i 0+l.getD i 0)
 | s,l,i,a,h,hl=>by
  have h2:i<l.length:=by omega
  rw [List.drop_eq_getElem_cons h,List.drop_eq_getElem_cons h2,plc,List.getD_eq_getElem?_getD,List.getElem?_eq_getElem h,List.getD_eq_getElem?_getD,List.getElem?_eq_getElem h2]
  rfl
theorem prod_cons (x:Nat) (l:List Nat):prod (x::l)=x*prod l:=by
 have h:∀ (l:List Nat) (a:Nat),l.foldl (·*·) a=a*l.foldl (·*·) 1:=fun l=>by
  induction l with
  | nil=>intro a;simp
  | cons y l ih=>intro a;simp only [List.foldl_cons,Nat.one_mul];rw [ih (a*y),ih y,Nat.mul_assoc]
 rw [prod,List.foldl_cons,Nat.one_mul,h,prod]
theorem plc_lt:∀ (s l:List Nat) (a:Nat),IsIx s l→plc s l a<(a+1)*prod s∧a*prod s≤plc s l a
 | [],l,a,h=>by
  obtain rfl:l=[]:=List.eq_nil_of_length_eq_zero h.1
  rw [plc_nil];simp [prod]
 | s::ss,[],a,h=>absurd h.1 (by simp)
 | s::ss,i::is,a,h=>by
  have hi:i<s:=h.2 0 (by simp)
  have ht:IsIx ss is:=⟨by have:=h.1;simpa using this,fun k hk=>by have:=h.2 (k+1) (by simp;omega);simpa using this⟩
  obtain ⟨h1,h2⟩:=plc_lt ss is (a*s+i) ht
  rw [plc,prod_cons]
  have e1:(a*s+i+1)*prod ss≤(a+1)*s*prod ss:=Nat.mul_le_mul_right _ (by rw [Nat.add_mul];omega)
  have e2:a*s*prod ss≤(a*s+i)*prod ss:=Nat.mul_le_mul_right _ (by omega)
  rw [← Nat.mul_assoc,← Nat.mul_assoc]
  omega
theorem prod_pos:∀ (s l:List Nat),IsIx s l→1≤prod s
 | [],_,_=>by simp [prod]
 | s::ss,[],h=>absurd h.1 (by simp)
 | s::ss,i::is,h=>by
  have hi:i<s:=h.2 0 (by simp)
  have ht:IsIx ss is:=⟨by have:=h.1;simpa using this,fun k hk=>by have:=h.2 (k+1) (by simp;omega);simpa using this⟩
  rw [prod_cons]
  exact Nat.mul_le_mul (show 1≤s by omega) (prod_pos ss is ht)
theorem IsIx.drop {s l:List Nat} (h:IsIx s l) (i:Nat):IsIx (s.drop i) (l.drop i) :=
 ⟨by rw [List.length_drop,List.length_drop,h.1],fun k hk=>by
  rw [List.length_drop] at hk
  have:=h.2 (i+k) (by omega)
  rw [List.getD_eq_getElem?_getD,List.getD_eq_getElem?_getD] at this ⊢
  rwa [List.getElem?_drop,List.getElem?_drop]⟩
theorem plc_ge {s l:List Nat} {a:Nat} (h:IsIx s l):a≤plc s l a:=by
 have h1:=(plc_lt s l a h).2
 have h2:=prod_pos s l h
 exact Nat.le_trans (Nat.le_mul_of_pos_right a h2) h1
theorem plc_end {s l:List Nat} {n a:Nat} (h1:s.length=n) (h2:l.length=n):plc (s.drop n) (l.drop n) a=a:=by
 rw [List.drop_of_length_le (by omega),List.drop_of_length_le (by omega)];rfl
theorem place_any (p q:Option Addr) (c d n:Nat) (s l:List Nat) (w:World) (hn:n≤4) (hs:Hid (s.length=n)) (hl:Hid (l.length=n)) (hi:IsIx s l) (h4:prod s≤4096) (hp:RdN w p s) (hq:RdN w q l) :
  Calls Tryz.prog 82 #[.slice p n c,.slice q n d] w fun e w'=>w=w'∧e=.returned (.int .i64 ((plc s l 0:Nat):Int)):=by
 have HP:=Lib.hid hp
 have HQ:=Lib.hid hq
 have HI:=Lib.hid hi
 have hni:(n:Int)≤4:=by omega
 have hlt4:plc s l 0<4096:=by have:=(plc_lt s l 0 hi).1;omega
 obtain ⟨R,HR⟩:∃ R,Hid (R=plc s l 0):=⟨_,rfl⟩
 rw [← HR.out] at hlt4 ⊢
 clear hp hq hi h4
 go_enter Tryz.func82,Tryz.ntmps82
 go_wp2_with fail
 go_loop [5,10] (fun pv iv=>∃ i a:Nat,i≤n∧iv=.int .i64 i∧pv=.int .i64 a∧Hid (R=plc (s.drop i) (l.drop i) a)) (fun _ iv=>n-(Go.RowKit.intOf iv).toNat)
 case atStart=>exact ⟨0,0,Nat.zero_le _,rfl,rfl,HR⟩
 case round =>
  obtain ⟨i,a,hin,rfl,rfl,HA⟩:=hrel
  have ii:(i:Int)≤(n:Int):=by omega
  by_cases hlt:i<n
  ·have ilt:(i:Int)<(n:Int):=by omega
   obtain ⟨b1,o1,x,rfl,-,hc1,HX⟩:=HP.out.at (k:=i) (by rw [hs.out];exact hlt)
   obtain ⟨b2,o2,y,rfl,-,hc2,HY⟩:=HQ.out.at (k:=i) (by rw [hl.out];exact hlt)
   obtain ⟨m,HM⟩:∃ m,Hid (m=a*x):=⟨_,rfl⟩
   obtain ⟨a2,HA2⟩:∃ a2,Hid (a2=m+y):=⟨_,rfl⟩
   have hst:Hid (R=plc (s.drop (i+1)) (l.drop (i+1)) a2):=Lib.hid (by
    rw [HA.out,plc_step s l i a (by rw [hs.out];exact hlt) (by rw [hs.out,hl.out]),HA2.out,HM.out,HX.out,HY.out])
   have ha2:a2<4096:=by have:=plc_ge (a:=a2) (HI.out.drop (i+1));rw [← hst.out] at this;omega
   have hmul:(a:Int)*(x:Int)=(m:Int):=by rw [HM.out];exact (Int.natCast_mul a x).symm
   have hadd:(m:Int)+(y:Int)=(a2:Int):=by rw [HA2.out];omega
   have ia2:(a2:Int)≤4096:=by omega
   have im:(m:Int)≤4096:=by rw [HA2.out] at ha2;omega
   go_wp2_with fail
   go_round
   case rel=>exact ⟨i+1,a2,by omega,by go_num,rfl,hst⟩
   case measure=>simp [Go.RowKit.intOf];omega
  ·obtain rfl:i=n:=by omega
   have ilt:¬ (i:Int)<(i:Int):=by omega
   have hfin:Hid (a=R):=Lib.hid (by rw [HA.out,plc_end hs.out hl.out])
   go_wp2_with fail
   go_ret
   exact ⟨rfl,by rw [← hfin.out];rfl⟩
theorem rplace_any (p q:Option Addr) (c d n:Nat) (s l:List Nat) (w:World) (hn:n≤4) (hs:Hid (s.length=n)) (hl:Hid (l.length=n)) (hi:IsIx s l) (h4:prod s≤4096) (hp:RdN w p s) (hq:RdN w q l) :
  Calls Tryz.prog 84 #[.slice p n c,.slice q n d] w fun e w'=>(∃ k,w.drewN k=w')∧e=.returned (.int .i64 ((plc s l 0:Nat):Int)):=by
 have HP:=Lib.hid hp
 have HQ:=Lib.hid hq
 have HI:=Lib.hid hi
 have hni:(n:Int)≤4:=by omega
 have hlt4:plc s l 0<4096:=by have:=(plc_lt s l 0 hi).1;omega
 obtain ⟨R,HR⟩:∃ R,Hid (R=plc s l 0):=⟨_,rfl⟩
 rw [← HR.out] at hlt4 ⊢
 clear hp hq hi h4
 go_enter Tryz.func84,Tryz.ntmps84
 go_wp2_with fail
 go_loopw [5,6] (fun pv iv wr=>∃ i a k:Nat,i≤n∧iv=.int .i64 i∧pv=.int .i64 a∧wr=w.drewN k∧Hid (R=plc (s.drop i) (l.drop i) a)) (fun _ iv _=>n-(Go.RowKit.intOf iv).toNat)
 case atStart=>exact ⟨0,0,0,Nat.zero_le _,rfl,rfl,rfl,HR⟩
 case round =>
  obtain ⟨i,a,k,hin,rfl,rfl,rfl,HA⟩:=hrel
  have ii:(i:Int)≤(n:Int):=by omega
  by_cases hlt:i<n
  ·have ilt:(i:Int)<(n:Int):=by omega
   obtain ⟨b1,o1,x,rfl,-,hc1,HX⟩:=HP.out.at (k:=i) (by rw [hs.out];exact hlt)
   obtain ⟨b2,o2,y,rfl,-,hc2,HY⟩:=HQ.out.at (k:=i) (by rw [hl.out];exact hlt)
   obtain ⟨m,HM⟩:∃ m,Hid (m=a*x):=⟨_,rfl⟩
   obtain ⟨a2,HA2⟩:∃ a2,Hid (a2=m+y):=⟨_,rfl⟩
   have hst:Hid (R=plc (s.drop (i+1)) (l.drop (i+1)) a2):=Lib.hid (by
    rw [HA.out,plc_step s l i a (by rw [hs.out];exact hlt) (by rw [hs.out,hl.out]),HA2.out,HM.out,HX.out,HY.out])
   have ha2:a2<4096:=by have:=plc_ge (a:=a2) (HI.out.drop (i+1));rw [← hst.out] at this;omega
   have hmul:(a:Int)*(x:Int)=(m:Int):=by rw [HM.out];exact (Int.natCast_mul a x).symm
   have hadd:(m:Int)+(y:Int)=(a2:Int):=by rw [HA2.out];omega
   have ia2:(a2:Int)≤4096:=by omega
   have im:(m:Int)≤4096:=by rw [HA2.out] at ha2;omega
   have hw1:IntKind.i64.wrap (m:Int)=(m:Int):=IntWalk.i64_in _ (by omega)
   have hw2:IntKind.i64.wrap (a2:Int)=(a2:Int):=IntWalk.i64_in _ (by omega)
   go_wp2_with fail
   go_quiet (fail)
   clear hw1 hw2
   go_wp2_with fail
   go_roundw
   case rel=>exact ⟨i+1,a2,_,by omega,by go_num,rfl,rfl,hst⟩
   case measure=>simp [Go.RowKit.intOf];omega
  ·obtain rfl:i=n:=by omega
   have ilt:¬ (i:Int)<(i:Int):=by omega
   have hfin:Hid (a=R):=Lib.hid (by rw [HA.out,plc_end hs.out hl.out])
   go_wp2_with fail
   go_ret
   exact ⟨⟨_,rfl⟩,by rw [← hfin.out];rfl⟩
end Go.Proofs.YtlcpcpmlfegejaaGreatDoor.Arr
set_option maxHeartbeats 2000000
set_option maxRecDepth 100000
namespace Go.Proofs.YtlcpcpmlfegejaaGreatDoor.Arr
open Go.RowKit
open Go.Lib
def cutOk (s:Nat) (a n k:Int):Bool:=decide (0≤a)&&decide (0≤n)&&decide (1≤k)&&decide (a≤(s:Int))&&(decide (n=0) || (decide (a<(s:Int))&&decide (n-1≤((s:Int)-1-a)/k)))
theorem cutOk_no {s:Nat} {a n k:Int} (h:a<0∨n<0∨k<1∨(s:Int)<a∨(n≠0∧(s:Int)≤a)):cutOk s a n k=false:=by
 unfold cutOk
 rcases h with h|h|h|h|⟨h1,h2⟩
 ·rw [decide_eq_false (show ¬ 0≤a by omega)];simp
 ·rw [decide_eq_false (show ¬ 0≤n by omega)];simp
 ·rw [decide_eq_false (show ¬ 1≤k by omega)];simp
 ·rw [decide_eq_false (show ¬ a≤(s:Int) by omega)];simp
 ·rw [decide_eq_false h1,decide_eq_false (show ¬ a<(s:Int) by omega)];simp
theorem cutOk_zero {s:Nat} {a k:Int} (h1:0≤a) (h2:1≤k) (h3:a≤(s:Int)):cutOk s a 0 k=true:=by
 unfold cutOk
 rw [decide_eq_true h1,decide_eq_true h2,decide_eq_true h3];simp
theorem cutOk_rest {s:Nat} {a n k:Int} (h1:0≤a) (h2:1≤n) (h3:1≤k) (h4:a<(s:Int)):cutOk s a n k=decide (n-1≤((s:Int)-1-a)/k):=by
 unfold cutOk
 rw [decide_eq_true h1,decide_eq_true (show 0≤n by omega),decide_eq_true h3,decide_eq_true (show a≤(s:Int) by omega),decide_eq_false (show ¬ n=0 by omega),decide_eq_true h4];simp
def CutPost (b:Bool) (w:World) (e:Ending) (w':World):Prop:=Below w.heap.size w w'∧e=.returned (.bool b)
theorem below_box (w:World) (o:Obj) (k:Nat):Below w.heap.size w ((w.alloc o).drewN k):=(((Below.refl _ w).alloc (Nat.le_refl _) o)).trans ⟨rfl,rfl,rfl,Nat.le_refl _,fun _ _=>rfl⟩
theorem iscut_any (s:Nat) (a n k:Int) (w:World) (hs:s≤1024) (hn:Hid (-9223372036854775808≤n∧n≤9223372036854775807)) :
  Calls Tryz.prog 88 #[.int .i64 (s:Int),.agg #[.int .i64 a,.int .i64 n,.int .i64 k]] w (CutPost (cutOk s a n k) w):=by
 have his:(s:Int)≤1024:=by omega
 have HB:=Lib.hid (below_box w (.cells #[.int .i64 a,.int .i64 n,.int .i64 k] 53))
 have HB0:Hid (Below w.heap.size w (w.alloc (.cells #[.int .i64 a,.int .i64 n,.int .i64 k] 53))):=Lib.hid ((Below.refl _ w).alloc (Nat.le_refl _) _)
 by_cases h1:a<0
 ·rw [cutOk_no (.inl h1)]
  go_enter Tryz.func88,Tryz.ntmps88
  go_wp2_with fail
  go_ret
  exact ⟨HB0.out,rfl⟩
 by_cases h2:n<0
 ·rw [cutOk_no (.inr (.inl h2))]
  go_enter Tryz.func88,Tryz.ntmps88
  go_wp2_with fail
  go_ret
  exact ⟨HB0.out,rfl⟩
 by_cases h3:k<1
 ·rw [cutOk_no (.inr (.inr (.inl h3)))]
  go_enter Tryz.func88,Tryz.ntmps88
  go_wp2_with fail
  go_ret
  exact ⟨HB0.out,rfl⟩
 by_cases h4:(s:Int)<a
 ·rw [cutOk_no (.inr (.inr (.inr (.inl h4))))]
  go_enter Tryz.func88,Tryz.ntmps88
  go_wp2_with fail
  go_ret
  exact ⟨HB0.out,rfl⟩
 have g1:0≤a:=by omega
 have g3:1≤k:=by omega
 have g4:a≤(s:Int):=by omega
 by_cases h5:n=0
 ·subst h5
  rw [cutOk_zero g1 g3 g4]
  go_enter Tryz.func88,Tryz.ntmps88
  go_wp2_with fail
  go_quiet (fail)
  go_wp2_with fail
  go_ret
  exact ⟨HB.out _,rfl⟩
 have h5b:(n==0)=false:=by rw [beq_eq_false_iff_ne];exact h5
 by_cases h6:a<(s:Int)
 ·rw [cutOk_rest g1 (by omega) g3 h6]
  have d6:decide (a<(s:Int))=true:=decide_eq_true h6
  have hw1:IntKind.i64.wrap (n-1)=n-1:=IntWalk.i64_in _ (by have:=hn.out;omega)
  have hw2:IntKind.i64.wrap ((s:Int)-1)=(s:Int)-1:=IntWalk.i64_in _ (by omega)
  have hw3:IntKind.i64.wrap ((s:Int)-1-a)=(s:Int)-1-a:=IntWalk.i64_in _ (by omega)
  obtain ⟨r,HR⟩:∃ r,Hid (r=((s:Int)-1-a)/k):=⟨_,rfl⟩
  have hq:((s:Int)-1-a).tdiv k=r:=by rw [HR.out];exact Int.tdiv_eq_ediv_of_nonneg (by omega)
  have hr0:0≤r:=by rw [HR.out];exact Int.ediv_nonneg (by omega) (by omega)
  have hr1:r≤1024:=by rw [HR.out];exact Int.le_trans (Int.ediv_le_self _ (by omega)) (by omega)
  have hw4:IntKind.i64.wrap r=r:=IntWalk.i64_in _ (by omega)
  rw [← HR.out]
  have hk0:(k==0)=false:=by rw [beq_eq_false_iff_ne];omega
  have hk1:¬ k=0:=by omega
  go_enter Tryz.func88,Tryz.ntmps88
  go_wp2_with fail
  go_quiet (fail)
  go_wp2_with fail
  go_ret
  exact ⟨HB.out _,rfl⟩
 ·rw [cutOk_no (.inr (.inr (.inr (.inr ⟨h5,by omega⟩))))]
  have d6:decide (a<(s:Int))=false:=decide_eq_false h6
  go_enter Tryz.func88,Tryz.ntmps88
  go_wp2_with fail
  go_quiet (fail)
  go_wp2_with fail
  go_ret
  exact ⟨HB.out _,rfl⟩
end Go.Proofs.YtlcpcpmlfegejaaGreatDoor.Arr
set_option maxHeartbeats 2000000
set_option maxRecDepth 100000
namespace Go.Proofs.YtlcpcpmlfegejaaGreatDoor.Arr
open Go.RowKit
open Go.Lib
structure RdC (w:World) (p:Option Addr) (l:List (Int × Int × Int)):Prop where
 wf:∀ z ∈ l,-9223372036854775808≤z.2.1∧z.2.1≤9223372036854775807
 cell:l.length=0∨∃ b off,p=some ⟨b,off,none⟩∧b<w.heap.size∧∀ j,j<l.length→w.cell? ⟨b,off+j*3,none⟩=some (.int .i64 (l.getD j (0,0,0)).1)∧w.cell? ⟨b,off+j*3+1,none⟩=some (.int .i64 (l.getD j (0,0,0)).2.1)∧w.cell? ⟨b,off+j*3+2,none⟩=some (.int .i64 (l.getD j (0,0,0)).2.2)
theorem RdC.below {w w':World} {p:Option Addr} {l:List (Int × Int × Int)} (h:RdC w p l) (hb:Below w.heap.size w w'):RdC w' p l:=⟨h.wf,h.cell.imp id fun ⟨b,off,h1,h2,h3⟩ =>
 ⟨b,off,h1,Nat.lt_of_lt_of_le h2 hb.size,fun j hj=>⟨(hb.cell (p:=⟨b,off+j*3,none⟩) h2).trans (h3 j hj).1,(hb.cell (p:=⟨b,off+j*3+1,none⟩) h2).trans (h3 j hj).2.1,(hb.cell (p:=⟨b,off+j*3+2,none⟩) h2).trans (h3 j hj).2.2⟩⟩⟩
theorem RdC.at {w:World} {p:Option Addr} {l:List (Int × Int × Int)} (h:RdC w p l) {k:Nat} (hk:k<l.length):∃ b off x y z,p=some ⟨b,off,none⟩∧b<w.heap.size∧w.cell? ⟨b,off+k*3,none⟩=some (.int .i64 x)∧w.cell? ⟨b,off+k*3+1,none⟩=some (.int .i64 y)∧w.cell? ⟨b,off+k*3+2,none⟩=some (.int .i64 z)∧Hid (l.getD k (0,0,0)=(x,y,z))∧Hid (-9223372036854775808≤y∧y≤9223372036854775807):=by
 rcases h.cell with h0|⟨b,off,h1,h2,h3⟩
 ·omega
 ·refine ⟨b,off,_,_,_,h1,h2,(h3 k hk).1,(h3 k hk).2.1,(h3 k hk).2.2,Lib.hid rfl,?_⟩
  have hm:l.getD k (0,0,0) ∈ l:=by rw [List.getD_eq_getElem?_getD,List.getElem?_eq_getElem hk];exact List.getElem_mem hk
  exact Lib.hid (h.wf _ hm)
def cutAt (s:List Nat) (l:List (Int × Int × Int)) (k:Nat):Bool:=cutOk (s.getD k 0) (l.getD k (0,0,0)).1 (l.getD k (0,0,0)).2.1 (l.getD k (0,0,0)).2.2
def slabOk (s:List Nat) (l:List (Int × Int × Int)):Bool:=decide (l.length=s.length)&&(List.range s.length).all (cutAt s l)
theorem slabOk_len {s:List Nat} {l:List (Int × Int × Int)} (h:l.length≠s.length):slabOk s l=false:=by unfold slabOk;rw [decide_eq_false h];rfl
theorem slabOk_no {s:List Nat} {l:List (Int × Int × Int)} {k:Nat} (hk:k<s.length) (h:cutAt s l k=false):slabOk s l=false:=by
 unfold slabOk
 have:(List.range s.length).all (cutAt s l)=false:=by
  rw [List.all_eq_false]
  exact ⟨k,List.mem_range.2 hk,by rw [h];simp⟩
 rw [this,Bool.and_false]
theorem slabOk_yes {s:List Nat} {l:List (Int × Int × Int)} (hl:l.length=s.length) (h:∀ k,k<s.length→cutAt s l k=true):slabOk s l=true:=by
 unfold slabOk
 rw [decide_eq_true hl,Bool.true_and,List.all_eq_true]
 exact fun k hk=>h k (List.mem_range.1 hk)
theorem isslab_any (p q:Option Addr) (c d:Nat) (s:List Nat) (l:List (Int × Int × Int)) (w:World) (hs4:s.length≤4) (hsb:∀ x ∈ s,x≤1024) (hp:RdN w p s) (hq:RdC w q l) :
  Calls Tryz.prog 51 #[.slice p s.length c,.slice q l.length d] w (CutPost (slabOk s l) w):=by
 have HP:=Lib.hid hp
 have HQ:=Lib.hid hq
 have HSB:=Lib.hid hsb
 have HB0:=Lib.hid (Below.refl w.heap.size w)
 by_cases hlen:l.length=s.length
 case neg =>
  rw [slabOk_len hlen]
  have hle:¬ (l.length:Int)=(s.length:Int):=by omega
  have hle2:((l.length:Int)==(s.length:Int))=false:=by rw [beq_eq_false_iff_ne];exact hle
  have hle3:((l.length:Int) != (s.length:Int))=true:=by rw [bne_iff_ne];exact hle
  clear hp hq hsb
  go_enter Tryz.func51,Tryz.ntmps51
  go_wp2_with fail
  go_ret
  exact ⟨HB0.out,rfl⟩
 obtain ⟨n,HN⟩:∃ n,Hid (n=s.length):=⟨_,rfl⟩
 have HL:Hid (l.length=n):=Lib.hid (by rw [HN.out];exact hlen)
 obtain ⟨v,HV⟩:∃ v,Hid (v=slabOk s l):=⟨_,rfl⟩
 rw [← HV.out,HL.out,← HN.out]
 rw [← HN.out] at hs4
 have hni:(n:Int)≤4:=by omega
 have HNO:Hid (∀ k,k<n→cutAt s l k=false→v=false):=Lib.hid (fun k hk h=>by rw [HV.out];exact slabOk_no (by rw [← HN.out];exact hk) h)
 have HYES:Hid ((∀ k,k<n→cutAt s l k=true)→v=true):=Lib.hid (fun h=>by rw [HV.out];exact slabOk_yes hlen (fun k hk=>h k (by rw [HN.out];exact hk)))
 clear hp hq hlen hsb
 go_enter Tryz.func51,Tryz.ntmps51
 go_wp2_with fail
 go_loopw [14] (fun iv wr=>∃ i:Nat,i≤n∧iv=.int .i64 i∧Hid (∀ k,k<i→cutAt s l k=true)∧Hid (Below w.heap.size w wr)) (fun iv _=>n-(Go.RowKit.intOf iv).toNat)
 case atStart=>exact ⟨0,Nat.zero_le _,rfl,Lib.hid (fun k hk=>by omega),HB0⟩
 case round =>
  obtain ⟨i,hi,rfl,HA,HB⟩:=hrel
  have ii:(i:Int)≤(n:Int):=by omega
  by_cases hlt:i<n
  ·have ilt:(i:Int)<(n:Int):=by omega
   obtain ⟨b1,o1,t,rfl,hb1,hc1,HT⟩:=(HP.out.below HB.out).at (k:=i) (by rw [← HN.out];exact hlt)
   obtain ⟨b2,o2,x,y,z,rfl,hb2,hx,hy,hz,HZ,HW⟩:=(HQ.out.below HB.out).at (k:=i) (by rw [HL.out];exact hlt)
   have ht:t≤1024:=by
    rw [HT.out,List.getD_eq_getElem?_getD,List.getElem?_eq_getElem (by rw [← HN.out];exact hlt)]
    exact HSB.out _ (List.getElem_mem _)
   obtain ⟨u,HU⟩:∃ u,Hid (u=cutOk t x y z):=⟨_,rfl⟩
   have HUA:Hid (cutAt s l i=u):=Lib.hid (by unfold cutAt;rw [HZ.out,HU.out,HT.out])
   obtain ⟨W1,HW1⟩:∃ W1,Hid (wr.alloc (.cells #[.int .i64 x,.int .i64 y,.int .i64 z] 53)=W1):=⟨_,Lib.hid rfl⟩
   have HB1:Hid (Below wr.heap.size wr W1):=Lib.hid (by rw [← HW1.out];exact (Below.refl _ _).alloc (Nat.le_refl _) _)
   have hbox:Hid (W1.heap[wr.heap.size]?=some (.cells #[.int .i64 x,.int .i64 y,.int .i64 z] 53 (0,0))):=Lib.hid (by rw [← HW1.out];exact World.alloc_heap_new wr _)
   have HALL:Hid (∀ W,Below W1.heap.size W1 W→Below W1.heap.size W1 W∧W.cell? ⟨b1,o1+i,none⟩=some (.int .i64 (t:Int))∧W.cell? ⟨wr.heap.size,0,none⟩=some (.int .i64 x)∧W.cell? ⟨wr.heap.size,1,none⟩=some (.int .i64 y)∧W.cell? ⟨wr.heap.size,2,none⟩=some (.int .i64 z)):=Lib.hid (fun W hW=>by
    have h1:=HB1.out.size
    have h2:=(hW.block wr.heap.size (Array.getElem?_eq_some_iff.1 hbox.out).1).trans hbox.out
    exact ⟨hW,((HB1.out.trans (hW.mono h1)).cell (p:=⟨b1,o1+i,none⟩) hb1).trans hc1,by simp [World.cell?,h2],by simp [World.cell?,h2],by simp [World.cell?,h2]⟩)
   have HC:Hid (∀ W,Calls Tryz.prog 88 #[.int .i64 (t:Int),.agg #[.int .i64 x,.int .i64 y,.int .i64 z]] W (CutPost u W)):=Lib.hid (fun W=>by rw [HU.out];exact iscut_any t x y z W ht HW)
   go_wp2_with fail
   rw [HW1.out]
   go_region_held3 (fun W=>Below W1.heap.size W1 W∧W.cell? ⟨b1,o1+i,none⟩=some (.int .i64 (t:Int))∧W.cell? ⟨wr.heap.size,0,none⟩=some (.int .i64 x)∧W.cell? ⟨wr.heap.size,1,none⟩=some (.int .i64 y)∧W.cell? ⟨wr.heap.size,2,none⟩=some (.int .i64 z))
    (first|exact HALL.out _ ⟨rfl,rfl,rfl,Nat.le_refl _,fun _ _=>rfl⟩|(go_split_ands;exact HALL.out _ hbw1.out))
    (first|(go_at_call 88;go_split_ands;refine (HC.out _).mono ?_;rintro e w3 ⟨hb3,rfl⟩;have hbw1:Hid (Below W1.heap.size W1 w3):=Lib.hid (Below.trans (by assumption) (hb3.mono (Below.size (by assumption))))))
   have HB3:Hid (Below w.heap.size w w3):=Lib.hid (HB.out.trans ((HB1.out.trans (hbw1.out.mono HB1.out.size)).mono HB.out.size))
   by_cases hu:u=true
   ·have hst:Hid (∀ k,k<i+1→cutAt s l k=true):=Lib.hid (fun k hk=>by
     by_cases e:k=i
     ·rw [e,HUA.out];exact hu
     ·exact HA.out k (by omega))
    subst hu
    go_wp2_with fail
    go_roundw
    case rel=>exact ⟨i+1,by omega,by go_num,hst,HB3⟩
    case measure=>simp [Go.RowKit.intOf];omega
   ·obtain rfl:u=false:=by simpa using hu
    obtain rfl:v=false:=HNO.out i hlt HUA.out
    go_wp2_with fail
    go_ret
    exact ⟨HB3.out,rfl⟩
  ·obtain rfl:i=n:=by omega
   have ilt:¬ (i:Int)<(i:Int):=by omega
   obtain rfl:v=true:=HYES.out HA.out
   go_wp2_with fail
   go_ret
   exact ⟨HB.out,rfl⟩
end Go.Proofs.YtlcpcpmlfegejaaGreatDoor.Arr
