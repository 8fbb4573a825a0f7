/- Numbers as rational numbers, and their texts. The four operations and Compare on texts: the laws of a field and of an order. -/
import Derived.Test.YtlcpcpmlfegejaaGreatDoorGB
import Derived.Test.YtlcpcpmlfegejaaGreatDoorZ05
import Derived.Test.YtlcpcpmlfegejaaGreatDoorZ06
import Derived.Outline
import Derived.Deep.MidRow
import Derived.Deep.RegionHeld3
namespace Go.Proofs.YtlcpcpmlfegejaaGreatDoor
open Go.RowKit Go.Lib Big
end Go.Proofs.YtlcpcpmlfegejaaGreatDoor
namespace Go.Proofs.YtlcpcpmlfegejaaGreatDoor
open Go.Lib Big
def short (q:Rat):Prop:=nDigits q.num.natAbs≤40∧nDigits q.den≤40
theorem txt_ne {q:Rat}:txt q≠[]↔short q:=by
 rw [txt_eq]
 unfold short
 split
 ·simp [wrote_ne, *]
 ·simp [*]
theorem num_short {l:List UInt8} {q:Rat} (h:num l=some q):short q:=by
 rw [← txt_ne,txt_num h]
 rintro rfl
 rw [num_nil] at h;cases h
def eqT (x y:List UInt8):Bool:=x==[] || (y==[] || x==y)
def sgnR (q:Rat):Int:=if q<0 then -1 else if q=0 then 0 else 1
def cmpT (x y:List UInt8):Int × Bool :=
 match num x,num y with
 | some a,some b=>(sgnR (a-b),true)
 | _,_=>(0,false)
theorem cmpT_some {x y:List UInt8} {a b:Rat} (hx:num x=some a) (hy:num y=some b):cmpT x y=(sgnR (a-b),true):=by unfold cmpT;rw [hx,hy]
end Go.Proofs.YtlcpcpmlfegejaaGreatDoor
namespace Go.Proofs.YtlcpcpmlfegejaaGreatDoor
open Go.Lib Big
end Go.Proofs.YtlcpcpmlfegejaaGreatDoor
namespace Go.Proofs.YtlcpcpmlfegejaaGreatDoor
open Go.RowKit Go.Lib Big
def RatIs (w:World) (x:Value) (q:Rat) (K:Nat):Prop:=∃ s a b,RatAt w x s a b∧ratv s a b=q∧0<b∧a<B64^K∧b<B64^K
theorem RatIs.below {w w':World} {x:Value} {q:Rat} {K:Nat} (h:RatIs w x q K) (hb:Below w.heap.size w w'):RatIs w' x q K:=by
 obtain ⟨s,a,b,h1,h2⟩:=h
 exact ⟨s,a,b,h1.below hb,h2⟩
theorem RatIs.more {w:World} {x:Value} {q:Rat} {K M:Nat} (h:RatIs w x q K) (hM:K≤M):RatIs w x q M:=by
 obtain ⟨s,a,b,h1,h2,h3,h4,h5⟩:=h
 have:=Nat.pow_le_pow_right B64_pos hM
 exact ⟨s,a,b,h1,h2,h3,by omega,by omega⟩
theorem RatIs.agg {w:World} {x:Value} {q:Rat} {K:Nat} (h:RatIs w x q K):∃ b p n c r m d,x=.agg #[.bool b,.slice p n c,.slice r m d]:=by
 obtain ⟨s,a,b,⟨u,v,rfl,hu,hv,-⟩,-⟩:=h
 obtain ⟨p,n,c,rfl⟩:=hu.slice
 obtain ⟨r,m,d,rfl⟩:=hv.slice
 exact ⟨_,_,_,_,_,_,_,rfl⟩
theorem ratAt_flag {w:World} {x:Value} {s:Bool} {a b:Nat} (h:RatAt w x s a b):s=true→0<a:=by
 obtain ⟨u,v,-,-,-,h⟩:=h;exact h
def IsPost (q:Rat) (K:Nat) (w:World) (e:Ending) (w':World):Prop:=∃ x,e=.returned x∧RatIs w' x q K∧Below w.heap.size w w'
theorem add_is (x y:Value) (p q:Rat) (K:Nat) (w:World) (hK:2*K+1≤1073741824) (hx:RatIs w x p K) (hy:RatIs w y q K):Calls Tryz.prog 130 #[x,y] w (IsPost (p+q) (2*K+1) w):=by
 obtain ⟨s,a,b,h1,rfl,h3,h4,h5⟩:=hx
 obtain ⟨t,c,d,k1,rfl,k3,k4,k5⟩:=hy
 refine (add_any x y s t a b c d K w hK h4 h5 k4 k5 h3 k3 h1 k1).mono ?_
 rintro e w' ⟨z,r,n,m,rfl,hz,hb,hm,hv,hn,hm2,-⟩
 exact ⟨z,rfl,⟨r,n,m,hz,hv,hm,hn,hm2⟩,hb⟩
theorem sub_is (x y:Value) (p q:Rat) (K:Nat) (w:World) (hK:2*K+1≤1073741824) (hx:RatIs w x p K) (hy:RatIs w y q K):Calls Tryz.prog 133 #[x,y] w (IsPost (p-q) (2*K+1) w):=by
 obtain ⟨s,a,b,h1,rfl,h3,h4,h5⟩:=hx
 obtain ⟨t,c,d,k1,rfl,k3,k4,k5⟩:=hy
 refine (sub_any x y s t a b c d K w hK h4 h5 k4 k5 h3 k3 h1 k1).mono ?_
 rintro e w' ⟨z,r,n,m,rfl,hz,hb,hm,hv,hn,hm2⟩
 exact ⟨z,rfl,⟨r,n,m,hz,hv,hm,hn,hm2⟩,hb⟩
theorem mul_lt2 {a b K:Nat} (ha:a<B64^K) (hb:b<B64^K):a*b<B64^(2*K):=by
 rw [pow_two]
 exact Nat.mul_lt_mul'' ha hb
theorem ratv_zero_iff {s:Bool} {a b:Nat} (hb:0<b):ratv s a b=0↔a=0:=by
 have h1:=natCast_ne hb
 constructor
 ·intro h
  unfold ratv at h
  apply Nat.eq_zero_of_not_pos
  intro ha
  have h2:=natCast_ne ha
  cases s
  ·simp only [Bool.false_eq_true,if_false] at h;grind
  ·simp only [if_true] at h;grind
 ·rintro rfl
  unfold ratv
  cases s<;>simp<;>grind
theorem quo_is (x y:Value) (p q:Rat) (K:Nat) (w:World) (hK:K≤1073741824) (hq:q≠0) (hx:RatIs w x p K) (hy:RatIs w y q K):Calls Tryz.prog 93 #[x,y] w (IsPost (p/q) (2*K) w):=by
 obtain ⟨s,a,b,h1,rfl,h3,h4,h5⟩:=hx
 obtain ⟨t,c,d,k1,rfl,k3,k4,k5⟩:=hy
 have hc:0<c:=by
  apply Nat.pos_of_ne_zero;intro h0;exact hq ((ratv_zero_iff k3).2 h0)
 refine (quo_any x y s t a b c d K w hK h4 h5 k4 k5 h1 k1).mono ?_
 rintro e w' ⟨z,rfl,hz,hb⟩
 exact ⟨z,rfl,⟨_,_,_,hz,by rw [ratv_drop,ratv_quo h3 k3 hc],Nat.mul_pos h3 hc,mul_lt2 h4 k5,mul_lt2 h5 k4⟩,hb⟩
theorem readQ_lt {l:List UInt8} {s:Bool} {n d:Nat} (h:readQ l=some (s,n,d)):n<B64^20∧d<B64^20∧0<d:=by
 unfold readQ at h
 split at h
 ·cases h
 ·rename_i hl
  split at h
  ·rename_i s0 n0 d0 hr
   split at h
   ·cases h;exact readL_lt hr (by omega)
   ·cases h
  ·cases h
def NumPost (o:Option Rat) (w:World) (e:Ending) (w':World):Prop :=
 Below w.heap.size w w'∧∃ b p n c q m d,e=.returned (.tuple #[.agg #[.bool b,.slice p n c,.slice q m d],.bool o.isSome])∧∀ r,o=some r→RatIs w' (.agg #[.bool b,.slice p n c,.slice q m d]) r 20
def TxtPost (l:List UInt8) (w:World) (e:Ending) (w':World):Prop:=e=.returned (.string ⟨l.toArray⟩)∧Below w.heap.size w w'
theorem sign_is (x:Value) (q:Rat) (K:Nat) (w:World) (hx:RatIs w x q K):Calls Tryz.prog 134 #[x] w fun e w'=>e=.returned (.int .i64 (sgnR q))∧Below w.heap.size w w':=by
 obtain ⟨s,a,b,h1,rfl,h3,h4,h5⟩:=hx
 have e:sgn s a=sgnR (ratv s a b):=by
  obtain ⟨g1,g2,g3⟩:=ratv_num h3 (ratAt_flag h1)
  have hz:=ratv_zero_iff (s:=s) (a:=a) h3
  unfold sgn sgnR
  have hn:(ratv s a b<0)↔(ratv s a b).num<0:=by have:=Rat.num_nonneg (q:=ratv s a b);grind
  cases s
  ·rw [decide_eq_false_iff_not] at g1
   rw [if_neg (by simp),if_neg (fun h=>g1 (hn.1 h))]
   by_cases ha:a=0
   ·rw [if_pos ha,if_pos (hz.2 ha)]
   ·rw [if_neg ha,if_neg (fun h=>ha (hz.1 h))]
  ·rw [decide_eq_true_iff] at g1
   rw [if_pos rfl,if_pos (hn.2 g1)]
 rw [← e]
 exact sign_any x s a b w h1
def CmpTPost (c:Int × Bool) (w:World) (e:Ending) (w':World):Prop:=e=.returned (.tuple #[.int .i64 c.1,.bool c.2])∧Below w.heap.size w w'
theorem One.drew {B:Nat} {s:Bool} {u1 v1:Value} {w0 W:World} (h:One B s u1 v1 w0 W):One B s u1 v1 w0 W.drew:=⟨h.size,h.below.drew,h.x,h.z⟩
theorem One.all {B:Nat} {s:Bool} {u1 v1:Value} {w0 W:World} (h:One B s u1 v1 w0 W):One B s u1 v1 w0 W∧W.cell? ⟨B,0,none⟩=some (.bool s)∧W.cell? ⟨B,1,none⟩=some u1∧W.cell? ⟨B,2,none⟩=some v1:=⟨h,h.cells⟩
end Go.Proofs.YtlcpcpmlfegejaaGreatDoor
set_option maxHeartbeats 4000000
set_option maxRecDepth 100000
namespace Go.Proofs.YtlcpcpmlfegejaaGreatDoor
open Go.RowKit Big
open Go.Lib
def sumQ:List Rat→Rat
 | []=>0
 | q::l=>q+sumQ l
theorem sumQ_append (l m:List Rat):sumQ (l++m)=sumQ l+sumQ m:=by
 induction l with
 | nil=>simp [sumQ,Rat.zero_add]
 | cons q l ih=>simp only [List.cons_append,sumQ,ih,Rat.add_assoc]
theorem sumQ_perm {l m:List Rat} (h:l.Perm m):sumQ l=sumQ m:=by
 induction h with
 | nil=>rfl
 | cons x _ ih=>simp only [sumQ,ih]
 | swap x y l=>simp only [sumQ,← Rat.add_assoc,Rat.add_comm x y]
 | trans _ _ h1 h2=>exact h1.trans h2
def Cells3 (W:World) (b o:Nat) (x:Value):Prop:=∃ s p n c r m d,x=.agg #[.bool s,.slice p n c,.slice r m d]∧W.cell? ⟨b,o,none⟩=some (.bool s)∧W.cell? ⟨b,o+1,none⟩=some (.slice p n c)∧W.cell? ⟨b,o+2,none⟩=some (.slice r m d)
theorem Cells3.below {W W':World} {b o:Nat} {x:Value} (h:Cells3 W b o x) (hb:b<W.heap.size) (hB:Below W.heap.size W W'):Cells3 W' b o x:=by
 obtain ⟨s,p,n,c,r,m,d,e,h0,h1,h2⟩:=h
 exact ⟨s,p,n,c,r,m,d,e,(hB.cell (p:=⟨b,o,none⟩) hb).trans h0,(hB.cell (p:=⟨b,o+1,none⟩) hb).trans h1,(hB.cell (p:=⟨b,o+2,none⟩) hb).trans h2⟩
def RdQ (W:World) (p:Option Addr) (qs:List Rat) (K:Nat):Prop:=qs.length=0∨∃ b off,p=some ⟨b,off,none⟩∧b<W.heap.size∧∀ j,j<qs.length→∃ x,Cells3 W b (off+j*3) x∧RatIs W x (qs.getD j 0) K
theorem RdQ.below {W W':World} {p:Option Addr} {qs:List Rat} {K:Nat} (h:RdQ W p qs K) (hB:Below W.heap.size W W'):RdQ W' p qs K:=by
 rcases h with h|⟨b,off,h1,h2,h3⟩
 ·exact .inl h
 ·refine .inr ⟨b,off,h1,Nat.lt_of_lt_of_le h2 hB.size,fun j hj=>?_⟩
  obtain ⟨x,hx,hq⟩:=h3 j hj
  exact ⟨x,hx.below h2 hB,hq.below hB⟩
theorem RdQ.take {W:World} {p:Option Addr} {qs:List Rat} {K:Nat} (h:RdQ W p qs K) (k:Nat):RdQ W p (qs.take k) K:=by
 rcases h with h|⟨b,off,h1,h2,h3⟩
 ·exact .inl (by rw [List.length_take,h];exact Nat.min_zero _)
 ·refine .inr ⟨b,off,h1,h2,fun j hj=>?_⟩
  rw [List.length_take] at hj
  obtain ⟨x,hx,hq⟩:=h3 j (by omega)
  refine ⟨x,hx,?_⟩
  rwa [List.getD_eq_getElem?_getD,List.getElem?_take_of_lt (by omega),← List.getD_eq_getElem?_getD]
theorem RdQ.drop {W:World} {b off:Nat} {qs:List Rat} {K:Nat} (h:RdQ W (some ⟨b,off,none⟩) qs K) (k:Nat):RdQ W (some ⟨b,off+k*3,none⟩) (qs.drop k) K:=by
 rcases h with h|⟨b',off',h1,h2,h3⟩
 ·exact .inl (by rw [List.length_drop,h];exact Nat.zero_sub _)
 ·cases h1
  refine .inr ⟨b,off+k*3,rfl,h2,fun j hj=>?_⟩
  rw [List.length_drop] at hj
  obtain ⟨x,hx,hq⟩:=h3 (k+j) (by omega)
  refine ⟨x,by rw [show off+k*3+j*3=off+(k+j)*3 by rw [Nat.add_mul];omega];exact hx,?_⟩
  rwa [List.getD_eq_getElem?_getD,List.getElem?_drop,← List.getD_eq_getElem?_getD]
theorem Res.rat3 {B:Nat} {w0 W:World} (h:Res B w0 W) (hB:w0.heap.size≤B) {x:Value} {q:Rat} {K:Nat} (hx:RatIs W x q K) (a:Bool) (p r:Option Addr) (n c m d:Nat):RatIs (((W.setCell ⟨B,0,none⟩ (.bool a)).setCell ⟨B,1,none⟩ (.slice p n c)).setCell ⟨B,2,none⟩ (.slice r m d)) x q K:=by
 obtain ⟨s,a',b,⟨u,v,rfl,hu,hv,hs⟩,h2⟩:=hx
 exact ⟨s,a',b,⟨u,v,rfl,h.nat3 hB hu _ _ _ _ _ _ _,h.nat3 hB hv _ _ _ _ _ _ _,hs⟩,h2⟩
theorem zero_is (W:World):Calls Tryz.prog 94 #[.int .i64 0] W (IsPost 0 1 W):=by
 refine (int_any 0 W (by omega)).mono ?_
 rintro e w' ⟨x,rfl,hx,hb⟩
 refine ⟨x,rfl,⟨_,_,_,hx,?_,by omega,by rw [Nat.pow_one,B64_eq];omega,by rw [Nat.pow_one,B64_eq];omega⟩,hb⟩
 simp [ratv]
 try grind
theorem halves_zero (p:Option Addr) (c:Nat) (w:World):Calls Tryz.prog 131 #[.slice p 0 c] w (IsPost 0 1 w):=by
 have H:=hiD (fun W=>zero_is W)
 go_enter Tryz.func131,Tryz.ntmps131
 go_wp2_with fail
 refine (H.out _).mono ?_
 rintro e w1 ⟨x,rfl,hx,hb⟩
 obtain ⟨bx,px,nx,cx,rx,mx,dx,rfl⟩:=hx.agg
 have hrr:=(Res.start w).next hb
 obtain ⟨z0,z1,z2,l0,l1,l2,f0,f1,f2⟩:=hrr.slots
 have HFIN:Hid (∀ W9,W9=(((w1.setCell ⟨w.heap.size,0,none⟩ (.bool bx)).setCell ⟨w.heap.size,1,none⟩ (.slice px nx cx)).setCell ⟨w.heap.size,2,none⟩ (.slice rx mx dx))→IsPost (0) (1) w (.returned (.agg #[.bool bx,.slice px nx cx,.slice rx mx dx])) W9):=hiD (by
  rintro W9 rfl
  exact ⟨_,rfl,hrr.rat3 (Nat.le_refl _) hx _ _ _ _ _ _ _,(hrr.put3 (Nat.le_refl _) _ _ _ _ _ _ _).below⟩)
 clear hrr hb hx
 go_wp2_with fail
 refine bodyPost_ret (v:=.agg #[.bool bx,.slice px nx cx,.slice rx mx dx]) (by simp [results,Tryz.results131,go_sem,l0,l1,l2]) rfl ?_
 exact HFIN.out _ rfl
theorem halves_one (p:Option Addr) (c:Nat) (q:Rat) (K:Nat) (w:World) (h:RdQ w p [q] K):Calls Tryz.prog 131 #[.slice p 1 c] w (IsPost q K w):=by
 obtain ⟨b,off,rfl,hb,hx⟩:∃ b off,p=some ⟨b,off,none⟩∧b<w.heap.size∧∃ x,Cells3 w b off x∧RatIs w x q K:=by
  rcases h with h|⟨b,off,h1,h2,h3⟩
  ·cases h
  ·obtain ⟨x,hx,hq⟩:=h3 0 (by simp)
   exact ⟨b,off,h1,h2,x,by simpa using hx,hq⟩
 obtain ⟨x,hc,hq⟩:=hx
 have hc':=hc.below hb (bea w (.cells #[.bool false,.slice none 0 0,.slice none 0 0] 62))
 obtain ⟨bx,px,nx,cx,rx,mx,dx,rfl,c0,c1,c2⟩:=hc'
 have HQ:=hiD hq
 clear hc hq h hb
 go_enter Tryz.func131,Tryz.ntmps131
 go_wp2_with fail
 refine bodyPost_ret (v:=.agg #[.bool bx,.slice px nx cx,.slice rx mx dx]) (by simp [results,Tryz.results131,go_sem]) rfl ?_
 exact ⟨_,rfl,HQ.out.below (bea _ _),bea _ _⟩
theorem elem91:Tryz.prog.underlying 57=some (.slice (Tryz.prog.elem 57)):=by kernel_rfl
theorem size91 (W:World):(sizeOf (Tryz.prog.elem 57)).run Tryz.prog W=.ok 3 W:=by kernel_rfl
theorem slice_low (b off n c k:Nat) (hkc:(k:Int)≤(c:Int)) (hc:¬ c=0) (W:World):(Instr.sliceAt 57 (.slice (some ⟨b,off,none⟩) n c) none (some (.int .i64 (k:Int))) none).run Tryz.prog W=.ok (.slice (some ⟨b,off,none⟩) k c) W:=by
 rw [run_sliceAt_slice W 57 _ _ _ _ elem91,run_slice_h W 57 _ _ _ elem91 .i64 (k:Int) (by omega) hkc,size91]
 simp [Result.andThen,sliced,hc,Addr.add]
theorem slice_high (b off n c k:Nat) (hkn:k≤n) (hc:¬ c=k) (W:World):(Instr.sliceAt 57 (.slice (some ⟨b,off,none⟩) n c) (some (.int .i64 (k:Int))) none none).run Tryz.prog W=.ok (.slice (some ⟨b,off+k*3,none⟩) (n-k) (c-k)) W:=by
 rw [run_sliceAt_slice W 57 _ _ _ _ elem91,run_slice_l W 57 _ _ _ elem91 .i64 (k:Int) (by omega) (by omega),size91]
 simp [Result.andThen,sliced,hc,Addr.add]
theorem halves_more (b off n c k:Nat) (qs:List Rat) (K:Nat) (w:World) (h2:2≤n) (hc:n≤c) (hmax:(n:Int)≤1000000) (hk:k=n/2) (hK:2*K+1≤1073741824)
  (HL:Hid (∀ W,Below w.heap.size w W→Calls Tryz.prog 131 #[.slice (some ⟨b,off,none⟩) k c] W (IsPost (sumQ (qs.take k)) K W))) (HR:Hid (∀ W,Below w.heap.size w W→Calls Tryz.prog 131 #[.slice (some ⟨b,off+k*3,none⟩) (n-k) (c-k)] W (IsPost (sumQ (qs.drop k)) K W))):Calls Tryz.prog 131 #[.slice (some ⟨b,off,none⟩) n c] w (IsPost (sumQ qs) (2*K+1) w):=by
 have hsum:Hid (sumQ qs=sumQ (qs.take k)+sumQ (qs.drop k)):=hiD (by rw [← sumQ_append,List.take_append_drop])
 obtain ⟨qa,HQA⟩:∃ q,Hid (sumQ (qs.take k)=q):=⟨_,hiD rfl⟩
 obtain ⟨qb,HQB⟩:∃ q,Hid (sumQ (qs.drop k)=q):=⟨_,hiD rfl⟩
 rw [HQA.out] at HL hsum
 rw [HQB.out] at HR hsum
 rw [hsum.out]
 have hk0:(0:Int)≤(k:Int):=by omega
 have hk1:(1:Int)≤(k:Int):=by omega
 have hkn:(k:Int)≤(n:Int):=by omega
 have hkc:(k:Int)≤(c:Int):=by omega
 have hkl:k<n:=by omega
 have hnc:(n:Int)≤(c:Int):=by omega
 have e0:((n:Int)==0)=false:=by simp;omega
 have e1:((n:Int)==1)=false:=by simp;omega
 have hq:(n:Int)/2=(k:Int):=by omega
 have hw:IntKind.i64.wrap (k:Int)=(k:Int):=IntWalk.i64_in _ (by omega)
 have HB0:=hiD (bea w (.cells #[.bool false,.slice none 0 0,.slice none 0 0] 62))
 have HR0:=hiD (Res.start w)
 obtain ⟨W1,HW1⟩:∃ W1,Hid (w.alloc (.cells #[.bool false,.slice none 0 0,.slice none 0 0] 62)=W1):=⟨_,hiD rfl⟩
 have hs1:∀ W,(Instr.sliceAt 57 (.slice (some ⟨b,off,none⟩) n c) none (some (.int .i64 (k:Int))) none).run Tryz.prog W=.ok (.slice (some ⟨b,off,none⟩) k c) W:=slice_low b off n c k hkc (by omega)
 have hs2:∀ W,(Instr.sliceAt 57 (.slice (some ⟨b,off,none⟩) n c) (some (.int .i64 (k:Int))) none none).run Tryz.prog W=.ok (.slice (some ⟨b,off+k*3,none⟩) (n-k) (c-k)) W:=slice_high b off n c k (by omega) (by omega)
 obtain ⟨o2,HO2⟩:∃ o2,Hid (off+k*3=o2):=⟨_,hiD rfl⟩
 obtain ⟨n2,HN2⟩:∃ n2,Hid (n-k=n2):=⟨_,hiD rfl⟩
 obtain ⟨d2,HD2⟩:∃ d2,Hid (c-k=d2):=⟨_,hiD rfl⟩
 rw [HO2.out,HN2.out,HD2.out] at HR hs2
 clear hsum HQA HQB h2 hk HO2 HN2 HD2
 go_enter Tryz.func131,Tryz.ntmps131
 go_wp2_with fail
 rw [HW1.out] at HB0 HR0 ⊢
 have HA2:Hid (∀ W x y,RatIs W x qa K→RatIs W y qb K→Calls Tryz.prog 130 #[x,y] W (IsPost (qa+qb) (2*K+1) W)):=hiD (fun W x y hx hy=>add_is x y qa qb K W hK hx hy)
 refine wp_region_noPanic ?_
 refine wp_region_held_drew (S:=fun W=>Res w.heap.size w W) (by kernel_rfl) (HR0.out.next (Below.refl _ _).drew) (fun hHeld=>?_)
 refine wpAnyH_take (i:=0) (v:=?v0) rfl (by kernel_rfl) (by kernel_rfl) (by kernel_rfl) (fun _ _ _ h=>h) (Or.inl ⟨by rfl,?hy0⟩) (by assumption) ?rest0
 case hy0 =>
  intro W' hSw
  go_simp
  with_reducible rfl
 simp only [List.getElem_toArray,List.getElem_cons_zero,Act.put,List.setIfInBounds_toArray,List.set_cons_zero,List.set_cons_succ]
 refine wpAnyH_take (i:=1) (v:=?v1) rfl (by kernel_rfl) (by kernel_rfl) (by kernel_rfl) (fun _ _ _ h=>h) (Or.inl ⟨by rfl,?hy1⟩) (by assumption) ?rest1
 case hy1 =>
  intro W' hSw
  go_simp
  with_reducible rfl
 simp only [List.getElem_toArray,List.getElem_cons_zero,List.getElem_cons_succ,Act.put,List.setIfInBounds_toArray,List.set_cons_zero,List.set_cons_succ]
 refine wpAnyH_take (i:=2) (v:=?v2) rfl (by kernel_rfl) (by kernel_rfl) (by kernel_rfl) (fun _ _ _ h=>h) (Or.inl ⟨by rfl,?hy2⟩) (by assumption) ?rest2
 case hy2 =>
  intro W' hSw
  go_simp
  with_reducible rfl
 simp only [List.getElem_toArray,List.getElem_cons_zero,List.getElem_cons_succ,Act.put,List.setIfInBounds_toArray,List.set_cons_zero,List.set_cons_succ]
 refine wpAnyH_take (i:=4) (v:=?v4) rfl (by kernel_rfl) (by kernel_rfl) (by kernel_rfl) (fun _ _ _ h=>h) (Or.inl ⟨by rfl,?hy4⟩) (by assumption) ?rest4
 case hy4 =>
  intro W' hSw
  go_simp
  with_reducible rfl
 simp only [List.getElem_toArray,List.getElem_cons_zero,List.getElem_cons_succ,Act.put,List.setIfInBounds_toArray,List.set_cons_zero,List.set_cons_succ]
 refine wpAnyH_take (i:=5) (v:=?v5) rfl (by kernel_rfl) (by kernel_rfl) (by kernel_rfl) (fun _ _ _ h=>h) (Or.inl ⟨by rfl,?hy5⟩) (by assumption) ?rest5
 case hy5 =>
  intro W' hSw
  go_simp
  with_reducible rfl
 simp only [List.getElem_toArray,List.getElem_cons_zero,List.getElem_cons_succ,Act.put,List.setIfInBounds_toArray,List.set_cons_zero,List.set_cons_succ]
 refine wpAnyH_take (i:=6) (v:=?v6) rfl (by kernel_rfl) (by kernel_rfl) (by kernel_rfl) (fun _ _ _ h=>h) (Or.inl ⟨by rfl,?hy6⟩) (by assumption) ?rest6
 case hy6 =>
  intro W' hSw
  go_simp
  with_reducible rfl
 simp only [List.getElem_toArray,List.getElem_cons_zero,List.getElem_cons_succ,Act.put,List.setIfInBounds_toArray,List.set_cons_zero,List.set_cons_succ]
 refine wpAnyH_ready (rs:=[3]) (by kernel_rfl) (by simp) ?_
 refine AllReadyH.cons (i:=3) rfl (fun K hK=>?_) AllReadyH.nil
 go_simp
 refine (HL.out _ (HB0.out.trans (Below.refl _ _).drew)).mono ?_
 rintro e wA ⟨xa,rfl,hxa,hbA⟩
 have HRA:Hid (Res w.heap.size w wA):=hiD ((HR0.out.next (Below.refl _ _).drew).next hbA)
 have HXA:=hiD hxa
 clear hxa hbA
 refine hK.out _ _ (HRA.out) (fun hHeld=>?_)
 clear hK K
 refine wpAnyH_ready (rs:=[7]) (by kernel_rfl) (by simp) ?_
 refine AllReadyH.cons (i:=7) rfl (fun K hK=>?_) AllReadyH.nil
 go_simp
 refine (HR.out _ HRA.out.below).mono ?_
 rintro e wB ⟨xb,rfl,hxb,hbB⟩
 have HRB:Hid (Res w.heap.size w wB):=hiD (HRA.out.next hbB)
 have HXB:=hiD hxb
 have HXAB:=hiD (HXA.out.below hbB)
 clear hxb hbB
 refine hK.out _ _ (HRB.out) (fun hHeld=>?_)
 clear hK K
 refine wpAnyH_ready (rs:=[8]) (by kernel_rfl) (by simp) ?_
 refine AllReadyH.cons (i:=8) rfl (fun K hK=>?_) AllReadyH.nil
 go_simp
 refine (HA2.out _ _ _ HXAB.out HXB.out).mono ?_
 rintro e wC ⟨xc,rfl,hxc,hbC⟩
 obtain ⟨bx,px,nx,cx,rx,mx,dx,rfl⟩:=hxc.agg
 have HRC:Hid (Res w.heap.size w wC):=hiD (HRB.out.next hbC)
 have HXC:=hiD hxc
 obtain ⟨z0,z1,z2,l0,l1,l2,f0,f1,f2⟩:=HRC.out.slots
 have HRD:=hiD (HRC.out.put3 (Nat.le_refl _) bx px rx nx cx mx dx)
 clear hxc hbC
 refine hK.out _ _ (HRC.out) (fun hHeld=>?_)
 clear hK K
 refine wpAnyH_ready (rs:=[9]) (by kernel_rfl) (by simp) ?_
 refine AllReadyH.cons (i:=9) rfl (fun K hK=>?_) AllReadyH.nil
 go_simp
 refine hK.out _ _ (HRD.out) (fun hHeld=>?_)
 clear hK K
 refine wpAnyH_done (by kernel_rfl) ?_ _
 refine NoPanic.normal ?_
 clear hHeld
 have HFIN:Hid (∀ W9,W9=(((wC.setCell ⟨w.heap.size,0,none⟩ (.bool bx)).setCell ⟨w.heap.size,1,none⟩ (.slice px nx cx)).setCell ⟨w.heap.size,2,none⟩ (.slice rx mx dx))→IsPost (qa+qb) (2*K+1) w (.returned (.agg #[.bool bx,.slice px nx cx,.slice rx mx dx])) W9):=hiD (by
  rintro W9 rfl
  exact ⟨_,rfl,HRC.out.rat3 (Nat.le_refl _) HXC.out _ _ _ _ _ _ _,HRD.out.below⟩)
 go_wp2_with fail
 refine bodyPost_ret (v:=.agg #[.bool bx,.slice px nx cx,.slice rx mx dx]) (by simp [results,Tryz.results131,go_sem,l0,l1,l2]) rfl ?_
 exact HFIN.out _ rfl
def KK (K d:Nat):Nat:=(K+1)*2^d-1
theorem KK_succ (K d:Nat):KK K (d+1)=2*KK K d+1:=by
 unfold KK
 have:0<(K+1)*2^d:=Nat.mul_pos (by omega) (Nat.two_pow_pos d)
 rw [Nat.pow_succ,← Nat.mul_assoc];omega
theorem KK_le (K d:Nat):K≤KK K d:=by
 unfold KK
 have:(K+1)*1≤(K+1)*2^d:=Nat.mul_le_mul_left _ (Nat.two_pow_pos d)
 omega
theorem halves_any (K:Nat):∀ (d n:Nat),n≤2^d→KK K d≤1073741824→1≤K→∀ (p:Option Addr) (c:Nat) (qs:List Rat) (w:World),qs.length=n→n≤c→(n:Int)≤1000000→RdQ w p qs K→Calls Tryz.prog 131 #[.slice p n c] w (IsPost (sumQ qs) (KK K d) w):=by
 intro d
 induction d with
 | zero =>
  intro n hn hK h1 p c qs w hl hc hmax h
  rcases (show n=0∨n=1 by omega) with rfl|rfl
  ·rw [List.length_eq_zero_iff] at hl
   subst hl
   exact (halves_zero p c w).mono fun e w' ⟨x,he,hx,hb⟩=>⟨x,he,hx.more (Nat.le_trans h1 (KK_le K 0)),hb⟩
  ·obtain ⟨q,rfl⟩:=List.length_eq_one_iff.1 hl
   rw [show sumQ [q]=q by simp [sumQ,Rat.add_zero]]
   exact (halves_one p c q K w h).mono fun e w' ⟨x,he,hx,hb⟩=>⟨x,he,hx.more (KK_le K 0),hb⟩
 | succ d ih =>
  intro n hn hK h1 p c qs w hl hc hmax h
  rw [KK_succ] at hK ⊢
  rcases (show n=0∨n=1∨2≤n by omega) with rfl|rfl|h2
  ·rw [List.length_eq_zero_iff] at hl
   subst hl
   exact (halves_zero p c w).mono fun e w' ⟨x,he,hx,hb⟩=>⟨x,he,hx.more (by have:=KK_le K d;omega),hb⟩
  ·obtain ⟨q,rfl⟩:=List.length_eq_one_iff.1 hl
   rw [show sumQ [q]=q by simp [sumQ,Rat.add_zero]]
   exact (halves_one p c q K w h).mono fun e w' ⟨x,he,hx,hb⟩=>⟨x,he,hx.more (by have:=KK_le K d;omega),hb⟩
  ·obtain ⟨b,off,rfl⟩:∃ b off,p=some ⟨b,off,none⟩:=by
    rcases h with h|⟨b,off,h1,-⟩
    ·omega
    ·exact ⟨b,off,h1⟩
   rw [Nat.pow_succ] at hn
   have hkk:RdQ w (some ⟨b,off,none⟩) qs (KK K d):=by
    rcases h with h|⟨b',off',e,hb,hx⟩
    ·exact .inl h
    ·exact .inr ⟨b',off',e,hb,fun j hj=>by obtain ⟨x,h1,h2⟩:=hx j hj;exact ⟨x,h1,h2.more (KK_le K d)⟩⟩
   refine halves_more b off n c (n/2) qs (KK K d) w h2 hc hmax rfl hK (hiD fun W hW=>?_) (hiD fun W hW=>?_)
   ·exact ih (n/2) (by omega) (by omega) h1 _ c (qs.take (n/2)) W (by rw [List.length_take];omega) (by omega) (by omega) ((h.below hW).take _)
   ·exact ih (n-n/2) (by omega) (by omega) h1 _ (c-n/2) (qs.drop (n/2)) W (by rw [List.length_drop];omega) (by omega) (by omega) ((h.below hW).drop _)
end Go.Proofs.YtlcpcpmlfegejaaGreatDoor
