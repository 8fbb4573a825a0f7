/- The law QuantityInts. -/
import Derived.Test.YtlcpcpmlfegejaaGreatDoorGB
import Derived.Test.YtlcpcpmlfegejaaGreatDoorZ05
import Derived.Test.YtlcpcpmlfegejaaGreatDoorZITO
import Derived.Test.YtlcpcpmlfegejaaGreatDoorZVQ
import Derived.Test.YtlcpcpmlfegejaaGreatDoorZRR
import Derived.Test.YtlcpcpmlfegejaaGreatDoorZRC
set_option maxHeartbeats 3200000
set_option maxRecDepth 100000
namespace Go.Proofs.YtlcpcpmlfegejaaGreatDoor
open Go.RowKit Big
open Go.Lib
theorem nDigits_le40 {u:Nat} (h:u<18446744073709551616):nDigits u≤40:=by
 have:=nDigits_le20 u h
 omega
theorem txt_int (n:Int) (h0:-9223372036854775808≤n) (h1:n≤9223372036854775807):txt (n:Rat)=itoa n:=by
 rw [txt_eq,Rat.num_intCast,Rat.den_intCast,if_pos ⟨nDigits_le40 (by omega),nDigits_le40 (by omega)⟩]
 unfold wrote itoa
 by_cases h:n<0
 ·simp [h]
 ·simp [h];congr 1;omega
theorem fromInt_any (n:Int) (h0:Hid (-9223372036854775808≤n∧n≤9223372036854775807)) (w:World) (htab:Tab w):Calls Tryz.prog 98 #[.int .i64 n] w (TxtPost (itoa n) w):=by
 have hi:Hid (Calls Tryz.prog 135 #[.int .i64 n] w fun e w'=>e=.returned (.string ⟨(itoa n).toArray⟩)∧Below w.heap.size w w'):=hiD ((Tryz.strconv_Itoa n h0.out.1 h0.out.2 w htab).mono fun e w' ⟨h1,k,os,h2⟩=>⟨h1,by rw [h2];exact Lib.below_grow _ _ (Nat.le_refl _) _ _⟩)
 unfold TxtPost
 generalize (⟨(itoa n).toArray⟩:ByteArray)=y at hi ⊢
 clear htab h0
 go_enter Tryz.func98,Tryz.ntmps98
 go_wp2_with fail
 refine hi.out.mono ?_
 rintro e w1 ⟨rfl,hb1⟩
 have HB:=hiD hb1
 clear hb1
 go_wp2_with fail
 go_ret
 exact ⟨rfl,HB.out⟩
theorem rfromInt_any (n:Int) (h0:Hid (-9223372036854775808≤n∧n≤9223372036854775807)) (w:World):Calls Tryz.prog 75 #[.int .i64 n] w (TxtPost (itoa n) w):=by
 have h1:=hiD (intq_any n w h0.out.1 h0.out.2)
 have hl:QLt 3 (n:Rat):=⟨by rw [Rat.num_intCast,B9_eq];have:=h0.out;omega,by rw [Rat.den_intCast,B9_eq];omega⟩
 have h2:Hid (∀ W x,QAt W x (n:Rat)→Calls Tryz.prog 72 #[x] W fun e w'=>e=.returned (.string ⟨(itoa n).toArray⟩)∧Below W.heap.size W w'):=hiD fun W x hx=>by
  rw [← txt_int n h0.out.1 h0.out.2];exact put_any x _ 3 W (by omega) hl hx
 unfold TxtPost
 generalize (⟨(itoa n).toArray⟩:ByteArray)=y at h2 ⊢
 clear hl h0
 go_enter Tryz.func75,Tryz.ntmps75
 go_wp2_with fail
 refine h1.out.mono ?_
 rintro e w1 ⟨x,rfl,hx,hb1⟩
 have h3:=h2.out w1 x hx
 obtain ⟨p3,n3,c3,p4,n4,c4,rfl,-,-⟩:=hx.slices
 generalize decide ((n:Rat).num<0)=sb at h3 ⊢
 have HB:=hiD hb1
 have H3:=hiD h3
 clear hb1 hx h3
 go_wp2_with fail
 refine H3.out.mono ?_
 rintro e w2 ⟨rfl,hb2⟩
 have HB2:=hiD (HB.out.trans (hb2.mono HB.out.size))
 clear hb2
 go_wp2_with fail
 go_ret
 exact ⟨rfl,HB2.out⟩
end Go.Proofs.YtlcpcpmlfegejaaGreatDoor
namespace Go.Proofs.YtlcpcpmlfegejaaGreatDoor
open Go.RowKit Big
open Go.Lib Go.Shelf
def beat (red:Int) (a b:Rat):Bool:=if red=3 then decide (a<b) else decide (b<a)
theorem beat_irr (red:Int) (a:Rat):beat red a a=false:=by
 unfold beat;split<;>simp<;>grind
theorem beat_trans {red:Int} {a b c:Rat} (h:beat red a b=true) (h2:beat red b c=true):beat red a c=true:=by
 unfold beat at *;split at h<;>simp_all<;>grind
theorem beat_mid {red:Int} {a b c:Rat} (h:beat red b a=false) (h2:beat red b c=true):beat red a c=true:=by
 unfold beat at *;split at h<;>simp_all<;>grind
def bestQ (red:Int):List Rat→Rat
 | []=>0
 | a::l=>l.foldl (fun b x=>if beat red x b then x else b) a
theorem best_fold (red:Int):∀ (l:List Rat) (a:Rat),(l.foldl (fun b x=>if beat red x b then x else b) a ∈ a::l)∧∀ y ∈ a::l,beat red y (l.foldl (fun b x=>if beat red x b then x else b) a)=false:=by
 intro l
 induction l with
 | nil=>intro a;exact ⟨by simp,fun y hy=>by simp at hy;subst hy;exact beat_irr _ _⟩
 | cons x l ih =>
  intro a
  rw [List.foldl_cons]
  cases hb:beat red x a with
  | true =>
   simp only [if_true]
   obtain ⟨h1,h2⟩:=ih x
   refine ⟨List.mem_cons_of_mem _ h1,fun y hy=>?_⟩
   rcases List.mem_cons.1 hy with rfl|hy
   ·cases hc:beat red y (l.foldl (fun b x=>if beat red x b then x else b) x) with
    | false=>rfl
    | true=>have:=beat_trans hb hc;rw [h2 x (by simp)] at this;cases this
   ·exact h2 y hy
  | false =>
   simp only [Bool.false_eq_true,if_false]
   obtain ⟨h1,h2⟩:=ih a
   refine ⟨?_,fun y hy=>?_⟩
   ·rcases List.mem_cons.1 h1 with h|h
    ·rw [h];simp
    ·exact List.mem_cons_of_mem _ (List.mem_cons_of_mem _ h)
   ·rcases List.mem_cons.1 hy with rfl|hy
    ·exact h2 _ (by simp)
    ·rcases List.mem_cons.1 hy with rfl|hy
     ·cases hc:beat red y (l.foldl (fun b x=>if beat red x b then x else b) a) with
      | false=>rfl
      | true=>have:=beat_mid hb hc;rw [h2 a (by simp)] at this;cases this
     ·exact h2 y (List.mem_cons_of_mem _ hy)
theorem best_spec (red:Int) {l:List Rat} (h:l≠[]):bestQ red l ∈ l∧∀ y ∈ l,beat red y (bestQ red l)=false:=by
 cases l with
 | nil=>exact absurd rfl h
 | cons a l=>exact best_fold red l a
theorem best_snoc (red:Int) (l:List Rat) (x:Rat):bestQ red (l++[x])=if l=[] then x else if beat red x (bestQ red l) then x else bestQ red l:=by
 cases l with
 | nil=>rfl
 | cons a l=>rw [if_neg (by simp)];show List.foldl _ a (l++[x])=_;rw [List.foldl_append];rfl
def redT (red:Int) (qs:List Rat):List UInt8 :=
 if red=1 then txt (sumQ qs) else if red=5 then itoa qs.length else if qs=[] then [] else if red=2 then txt (sumQ qs/(qs.length:Rat)) else txt (bestQ red qs)
def bestT (red:Int) (ss:List (List UInt8)):List UInt8:=if numsL ss=[] then [] else txt (bestQ red (numsL ss))
theorem bestT_num (red:Int) {ss:List (List UInt8)} (h:numsL ss≠[]):num (bestT red ss)=some (bestQ red (numsL ss)):=by
 unfold bestT
 rw [if_neg h]
 have hm:=(best_spec red h).1
 unfold numsL at hm
 rw [List.mem_filterMap] at hm
 obtain ⟨x,-,hx⟩:=hm
 unfold numsL
 rw [txt_num hx,hx]
theorem bestT_none (red:Int) {ss:List (List UInt8)} (h:numsL ss=[]):bestT red ss=[]:=by unfold bestT;rw [if_pos h]
theorem bestT_skip (red:Int) {ss:List (List UInt8)} {i:Nat} (hi:i<ss.length) (h:num (ss.getD i [])=none):bestT red (ss.take (i+1))=bestT red (ss.take i):=by
 unfold bestT
 rw [numsL_take hi,h]
 simp only [Option.toList_none,List.append_nil]
theorem bestT_more (red:Int) {ss:List (List UInt8)} {i:Nat} {q:Rat} (hi:i<ss.length) (h:num (ss.getD i [])=some q):bestT red (ss.take (i+1))=if numsL (ss.take i)=[] then ss.getD i [] else if beat red q (bestQ red (numsL (ss.take i))) then ss.getD i [] else bestT red (ss.take i):=by
 have e:bestT red (ss.take (i+1))=txt (bestQ red (numsL (ss.take i)++[q])):=by
  have e2:numsL (ss.take (i+1))=numsL (ss.take i)++[q]:=by rw [numsL_take hi,h];rfl
  unfold bestT
  rw [e2,if_neg (by simp)]
 rw [e,best_snoc]
 by_cases hn:numsL (ss.take i)=[]
 ·rw [if_pos hn,if_pos hn,txt_num h]
 ·rw [if_neg hn,if_neg hn]
  cases hb:beat red q (bestQ red (numsL (ss.take i))) with
  | true=>simp only [if_true];exact txt_num h
  | false=>simp only [Bool.false_eq_true,if_false];unfold bestT;rw [if_neg hn]
theorem redT_best (red:Int) (h1:red≠1) (h2:red≠2) (h5:red≠5) (ss:List (List UInt8)):redT red (numsL ss)=bestT red ss:=by
 unfold redT bestT
 rw [if_neg h1,if_neg h5,if_neg h2]
theorem cmp_best (red:Int) {x:List UInt8} {q:Rat} {ss:List (List UInt8)} (hx:num x=some q):(cmpT x (bestT red ss)).2=decide (numsL ss≠[])∧(numsL ss≠[]→(cmpT x (bestT red ss)).1=sgnR (q-bestQ red (numsL ss))):=by
 by_cases h:numsL ss=[]
 ·rw [bestT_none red h]
  refine ⟨?_,fun h'=>absurd h h'⟩
  unfold cmpT
  rw [hx,num_nil]
  simp [h]
 ·rw [cmpT_some hx (bestT_num red h)]
  exact ⟨by simp [h],fun _=>rfl⟩
theorem sgnR_neg (q r:Rat):(decide (sgnR (q-r)<0))=beat 3 q r:=by
 unfold sgnR beat
 rw [if_pos (show (3:Int)=3 from rfl)]
 by_cases h1:q-r<0
 ·rw [if_pos h1];have:q<r:=by grind
  simp [this]
 ·rw [if_neg h1];have:¬ q<r:=by grind
  split<;>simp [this]
theorem sgnR_pos (q r:Rat):(decide (0<sgnR (q-r)))=beat 4 q r:=by
 unfold sgnR beat
 rw [if_neg (show ¬ (4:Int)=3 by omega)]
 by_cases h1:q-r<0
 ·rw [if_pos h1];have:¬ r<q:=by grind
  simp [this]
 ·rw [if_neg h1]
  by_cases h2:q-r=0
  ·rw [if_pos h2];have:¬ r<q:=by grind
   simp [this]
  ·rw [if_neg h2];have:r<q:=by grind
   simp [this]
end Go.Proofs.YtlcpcpmlfegejaaGreatDoor
set_option maxHeartbeats 4000000
set_option maxRecDepth 100000
namespace Go.Proofs.YtlcpcpmlfegejaaGreatDoor
open Go.RowKit Big
open Go.Lib Go.Shelf
theorem clone_nilR (W:World):Calls Tryz.prog 126 #[.slice none 0 0] W fun e w'=>W=w'∧e=.returned (.slice none 0 0):=by
 have hq:∀ (w:World),(binOp .eql 57 (.slice none 0 0) (.slice none 0 0)).run Tryz.prog w=.ok (.bool true) w:=fun w=>Lib.run_eql_slice_nil w 57 (Tryz.prog.elem 57) none 0 0 0 0 elem91
 go_enter Tryz.func126,Tryz.ntmps126
 go_wp2_with fail
 go_ret
 exact ⟨rfl,rfl⟩
theorem ins_nilR (f:Value) (W:World):Calls Tryz.prog 190 #[.slice none 0 0,.int .i64 0,.int .i64 0,f] W fun e w'=>W=w'∧e=.returned (.tuple #[]):=by
 go_enter Tryz.func190,Tryz.ntmps190
 go_wp2_with fail
 go_loopw [8] (fun iv wr=>iv=.int .i64 1∧wr=W) (fun _ _=>0)
 case atStart=>exact ⟨rfl,rfl⟩
 case round =>
  obtain ⟨rfl,rfl⟩:=hrel
  go_wp2_with fail
  go_end0
  exact ⟨rfl,rfl⟩
theorem pdq_nilR (l:Int) (f:Value) (W:World):Calls Tryz.prog 157 #[.slice none 0 0,.int .i64 0,.int .i64 0,.int .i64 l,f] W fun e w'=>W=w'∧e=.returned (.tuple #[]):=by
 go_enter Tryz.func157,Tryz.ntmps157
 go_wp2_with fail
 go_loopw [1,2] (fun av bv wr=>av=.int .i64 0∧bv=.int .i64 0∧wr=W) (fun _ _ _=>0)
 case atStart=>exact ⟨rfl,rfl,rfl⟩
 case round =>
  obtain ⟨rfl,rfl,rfl⟩:=hrel
  go_wp2_with fail
  refine (ins_nilR f wr).mono ?_
  rintro e w' ⟨rfl,rfl⟩
  go_wp2_with fail
  (try simp only [Exit.inBlock,Exit.then])
  refine bodyPost_ret (results_none rfl _ _ _) rfl ?_
  exact ⟨rfl,rfl⟩
theorem len64_zero (w:World):Calls Tryz.prog 199 #[.int .u64 0] w fun e w'=>w=w'∧∃ l,e=.returned (.int .i64 l):=by
 go_enter Tryz.func199,Tryz.ntmps199
 go_wp2_with fail
 go_ret
 exact ⟨rfl,_,rfl⟩
theorem len_zero (w:World):Calls Tryz.prog 158 #[.int .u64 0] w fun e w'=>w=w'∧∃ l,e=.returned (.int .i64 l):=by
 go_enter Tryz.func158,Tryz.ntmps158
 go_wp2_with fail
 refine (len64_zero w).mono ?_
 rintro e w' ⟨rfl,l,rfl⟩
 go_wp2_with fail
 go_ret
 exact ⟨rfl,_,rfl⟩
theorem sort_nilR (w:World):Calls Tryz.prog 127 #[.slice none 0 0,.func (.func 128) #[] #[]] w fun e w'=>w=w'∧e=.returned (.tuple #[]):=by
 go_enter Tryz.func127,Tryz.ntmps127
 go_wp2_with fail
 refine (len_zero w).mono ?_
 rintro e w' ⟨rfl,l,rfl⟩
 go_wp2_with fail
 refine (pdq_nilR l _ w).mono ?_
 rintro e w' ⟨rfl,rfl⟩
 go_wp2_with fail
 go_end0
 exact ⟨rfl,rfl⟩
theorem total_nil (w:World):Calls Tryz.prog 92 #[.slice none 0 0] w (IsPost 0 1 w):=by
 have HRES:=hiD (Res.start w)
 have HCL:=hiD clone_nilR
 have HSO:=hiD sort_nilR
 have HHV:=hiD (halves_zero)
 have hs:∀ W,(Instr.sliceAt 57 (.slice none 0 0) none (some (.int .i64 0)) none).run Tryz.prog W=.ok (.slice none 0 0) W:=fun W=>by
  rw [run_sliceAt_slice W 57 _ _ _ _ elem91,run_slice_h W 57 _ _ _ elem91 .i64 0 (by omega) (by omega),size91]
  simp [Result.andThen,sliced]
 go_enter Tryz.func92,Tryz.ntmps92
 go_wp2_with fail
 obtain ⟨W1,HW1⟩:∃ W1,Hid (w.alloc (.cells #[.bool false,.slice none 0 0,.slice none 0 0] 62)=W1):=⟨_,hiD rfl⟩
 rw [HW1.out] at HRES ⊢
 refine (HCL.out W1).mono ?_
 rintro e w2 ⟨rfl,rfl⟩
 go_wp2_with fail
 refine (HSO.out W1).mono ?_
 rintro e w3 ⟨rfl,rfl⟩
 go_wp2_with fail
 go_loopw [4,16] (fun pv iv wr=>∃ p c,pv=.slice p 0 c∧iv=.int .i64 0∧wr=W1) (fun _ _ _=>0)
 case atStart=>exact ⟨_,_,rfl,rfl,rfl⟩
 case round =>
  obtain ⟨p,c',rfl,rfl,rfl⟩:=hrel
  go_wp2_with fail
  refine (HHV.out _ _ _).mono ?_
  rintro e wz ⟨z,rfl,hz,hbz⟩
  obtain ⟨bx,px,nx,cx,rx,mx,dx,rfl⟩:=hz.agg
  have HRC:=hiD (HRES.out.next hbz)
  obtain ⟨z0,z1,z2,l0,l1,l2,f0,f1,f2⟩:=HRC.out.slots
  have HEN:Hid (∀ W9,W9=(((wz.setCell ⟨w.heap.size,0,none⟩ (.bool bx)).setCell ⟨w.heap.size,1,none⟩ (.slice px nx cx)).setCell ⟨w.heap.size,2,none⟩ (.slice rx mx dx))→IsPost 0 1 w (.returned (.agg #[.bool bx,.slice px nx cx,.slice rx mx dx])) W9):=hiD (by
   rintro W9 rfl
   exact ⟨_,rfl,HRC.out.rat3 (Nat.le_refl _) hz _ _ _ _ _ _ _,(HRC.out.put3 (Nat.le_refl _) _ _ _ _ _ _ _).below⟩)
  clear hz hbz
  go_wp2_with fail
  refine bodyPost_ret (v:=.agg #[.bool bx,.slice px nx cx,.slice rx mx dx]) (by simp [results,Tryz.results92,go_sem,l0,l1,l2]) rfl ?_
  exact HEN.out _ rfl
def SlQ (W:World) (p:Option Addr) (m c:Nat) (qs:List Rat):Prop:=qs.length=m∧m≤1000∧m≤c∧RdQ W p qs 20∧((p=none∧c=0)∨∃ b off,p=some ⟨b,off,none⟩)
theorem SlQ.below {W W':World} {p:Option Addr} {m c:Nat} {qs:List Rat} (h:SlQ W p m c qs) (hb:Below W.heap.size W W'):SlQ W' p m c qs:=⟨h.1,h.2.1,h.2.2.1,h.2.2.2.1.below hb,h.2.2.2.2⟩
theorem total_sl (p:Option Addr) (m c:Nat) (qs:List Rat) (w:World) (h:SlQ w p m c qs):Calls Tryz.prog 92 #[.slice p m c] w (IsPost (sumQ qs) (KK 21 10) w):=by
 obtain ⟨hl,hm,hc,hr,hp⟩:=h
 rcases Nat.eq_zero_or_pos m with h0|h0
 ·subst h0
  rw [List.length_eq_zero_iff] at hl
  subst hl
  rcases hp with ⟨rfl,rfl⟩|⟨b,off,rfl⟩
  ·exact (total_nil w).mono fun e w' ⟨x,he,hx,hb⟩=>⟨x,he,hx.more KK_one,hb⟩
  ·exact (total_zero b off c w).mono fun e w' ⟨x,he,hx,hb⟩=>⟨x,he,hx.more KK_one,hb⟩
 ·rcases hp with ⟨rfl,rfl⟩|⟨b,off,rfl⟩
  ·omega
  ·exact total_any b off m c qs w hl h0 hm hr
end Go.Proofs.YtlcpcpmlfegejaaGreatDoor
set_option maxHeartbeats 8000000
set_option maxRecDepth 100000
namespace Go.Proofs.YtlcpcpmlfegejaaGreatDoor
open Go.RowKit Big
open Go.Lib Go.Shelf
theorem atext_any (x:Value) (s:Bool) (a b K:Nat) (w:World) (hK:K≤1000000) (ha:a<B64^K) (hb:b<B64^K) (hb0:0<b) (hx:RatAt w x s a b) (htab:Tab w):Calls Tryz.prog 91 #[x] w fun e w'=>e=.returned (.string ⟨(numText s a b).toArray⟩)∧Below w.heap.size w w':=by
 have ht:∀ o,Hid (Calls Tryz.prog 125 #[x,.int .i64 40] (w.alloc o) fun e w'=>Below (w.alloc o).heap.size (w.alloc o) w'∧∃ f,e=.returned (.tuple #[.string ⟨(numText s a b).toArray⟩,.bool f])):=fun o=>hiD (by
  have h:=ratText_any x s a b K 40 (w.alloc o) hK (by omega) ha hb hb0 (hx.below (bea w o)) (htab.below (bea w o))
  refine h.mono fun e w' h=>⟨h.1,?_⟩
  unfold numText
  cases hr:ratText s a b 40 with
  | none=>have:=h.2;rw [hr] at this;exact ⟨_,this⟩
  | some l=>have:=h.2;rw [hr] at this;exact ⟨_,this⟩)
 obtain ⟨u,v,rfl,-,-,-⟩:=hx
 clear ha hb htab
 go_enter Tryz.func91,Tryz.ntmps91
 go_wp2_with fail
 refine (ht _).out.mono ?_
 rintro e w2 ⟨hb2,f,rfl⟩
 have hbw:=hiD ((bea w _).trans (hb2.mono (bea w (.cells #[.bool s,u,v] 62)).size))
 clear hb2
 go_wp2_with fail
 go_ret
 exact ⟨rfl,hbw.out⟩
theorem atext_is (x:Value) (q:Rat) (K:Nat) (w:World) (hK:K≤1000000) (hx:RatIs w x q K) (htab:Tab w):Calls Tryz.prog 91 #[x] w (TxtPost (txt q) w):=by
 obtain ⟨s,a,b,h1,rfl,h3,h4,h5⟩:=hx
 rw [← numText_txt h3 (ratAt_flag h1)]
 exact atext_any x s a b K w hK h4 h5 h3 h1 htab
theorem red_sum (p:Option Addr) (m c:Nat) (qs:List Rat) (w:World) (h:SlQ w p m c qs) (ht:Tab w):Calls Tryz.prog 57 #[.slice p m c] w (TxtPost (txt (sumQ qs)) w):=by
 have HT:=hiD ht
 have HC:=hiD (total_sl p m c qs w h)
 clear h ht
 unfold TxtPost
 go_enter Tryz.func57,Tryz.ntmps57
 go_wp2_with fail
 refine HC.out.mono ?_
 rintro e w1 ⟨x,rfl,hx,hb⟩
 have HX:=hiD (atext_is x _ _ w1 (by unfold KK;omega) hx (HT.out.below hb))
 have HB:=hiD hb
 clear hb hx
 go_wp2_with fail
 refine HX.out.mono ?_
 rintro e w2 ⟨rfl,hb2⟩
 have HB2:=hiD (HB.out.trans (hb2.mono HB.out.size))
 clear hb2
 go_wp2_with fail
 go_ret
 exact ⟨rfl,HB2.out⟩
theorem red_count (p:Option Addr) (m c:Nat) (qs:List Rat) (w:World) (h:SlQ w p m c qs) (ht:Tab w):Calls Tryz.prog 61 #[.slice p m c] w (TxtPost (itoa qs.length) w):=by
 obtain ⟨hl,hm,-⟩:=h
 rw [hl]
 have hm2:(m:Int)≤1000:=by omega
 have HC:=hiD (fromInt_any (m:Int) (hiD (by omega)) w ht)
 clear hl ht
 unfold TxtPost
 go_enter Tryz.func61,Tryz.ntmps61
 go_wp2_with fail
 refine HC.out.mono ?_
 rintro e w1 ⟨rfl,hb⟩
 have HB:=hiD hb
 clear hb
 go_wp2_with fail
 go_ret
 exact ⟨rfl,HB.out⟩
theorem nat_rat_ne {m:Nat} (h:0<m):((m:Nat):Rat)≠0:=natCast_ne (by omega)
theorem int_is (m:Nat) (hm:m≤1000) (w:World):Calls Tryz.prog 94 #[.int .i64 m] w (IsPost (m:Rat) 1 w):=by
 refine (int_any m w hm).mono ?_
 rintro e w' ⟨x,rfl,hx,hb⟩
 refine ⟨x,rfl,⟨_,_,_,hx,?_,by omega,by rw [Nat.pow_one,B64_eq];omega,by rw [Nat.pow_one,B64_eq];omega⟩,hb⟩
 simp [ratv]
 try grind
theorem red_mean0 (p:Option Addr) (c:Nat) (w:World):Calls Tryz.prog 58 #[.slice p 0 c] w (TxtPost [] w):=by
 unfold TxtPost
 go_enter Tryz.func58,Tryz.ntmps58
 go_wp2_with fail
 go_ret
 exact ⟨rfl,Below.refl _ _⟩
theorem red_mean1 (p:Option Addr) (m c:Nat) (qs:List Rat) (w:World) (h:SlQ w p m c qs) (h0:0<m) (ht:Tab w):Calls Tryz.prog 58 #[.slice p m c] w (TxtPost (txt (sumQ qs/((qs.length:Nat):Rat))) w):=by
 have HT:=hiD ht
 have HC:=hiD (total_sl p m c qs w h)
 obtain ⟨hl,hm,-⟩:=h
 rw [hl]
 have hm2:(m:Int)≤1000:=by omega
 have hm1:(1:Int)≤m:=by omega
 have he:((m:Int)==0)=false:=by simp;omega
 have HI:=hiD (int_is m hm)
 have HNZ:=hiD (nat_rat_ne h0)
 have HKK:Hid (1≤KK 21 10∧KK 21 10≤1000000∧2*KK 21 10≤1000000):=hiD (by unfold KK;omega)
 clear hl ht h0
 unfold TxtPost
 go_enter Tryz.func58,Tryz.ntmps58
 go_wp2_with fail
 refine HC.out.mono ?_
 rintro e w1 ⟨x,rfl,hx,hb⟩
 have HX:=hiD hx
 have HB:=hiD hb
 clear hb hx
 go_wp2_with fail
 refine (HI.out w1).mono ?_
 rintro e w2 ⟨y,rfl,hy,hb2⟩
 have HQ:=hiD (quo_is x y (sumQ qs) (m:Rat) (KK 21 10) w2 (by have:=HKK.out;omega) HNZ.out (HX.out.below hb2) (hy.more HKK.out.1))
 have HB2:=hiD (HB.out.trans (hb2.mono HB.out.size))
 clear hb2 hy
 go_wp2_with fail
 refine HQ.out.mono ?_
 rintro e w3 ⟨z,rfl,hz,hb3⟩
 have HB3:=hiD (HB2.out.trans (hb3.mono HB2.out.size))
 have HZ:=hiD (atext_is z _ _ w3 HKK.out.2.2 hz (HT.out.below HB3.out))
 clear hb3 hz
 go_wp2_with fail
 refine HZ.out.mono ?_
 rintro e w4 ⟨rfl,hb4⟩
 have HB4:=hiD (HB3.out.trans (hb4.mono HB3.out.size))
 clear hb4
 go_wp2_with fail
 go_ret
 exact ⟨rfl,HB4.out⟩
structure BestB (B:Nat) (w0 W:World) (q:Rat):Prop where
 box:Res B w0 W
 num:∃ s p n c r m d,W.heap[B]?=some (.cells #[.bool s,.slice p n c,.slice r m d] 62 (0,0))∧RatIs W (.agg #[.bool s,.slice p n c,.slice r m d]) q 20
theorem BestB.next {B:Nat} {w0 W W':World} {q:Rat} (h:BestB B w0 W q) (hb:Below W.heap.size W W'):BestB B w0 W' q:=by
 obtain ⟨s,p,n,c,r,m,d,h1,h2⟩:=h.num
 exact ⟨h.box.next hb,s,p,n,c,r,m,d,(hb.block _ (by have:=h.box.size;omega)).trans h1,h2.below hb⟩
theorem BestB.put {B:Nat} {w0 W:World} {q q':Rat} (h:BestB B w0 W q) (hB:w0.heap.size≤B) {s:Bool} {p r:Option Addr} {n c m d:Nat} (hq:RatIs W (.agg #[.bool s,.slice p n c,.slice r m d]) q' 20):BestB B w0 (((W.setCell ⟨B,0,none⟩ (.bool s)).setCell ⟨B,1,none⟩ (.slice p n c)).setCell ⟨B,2,none⟩ (.slice r m d)) q':=by
 refine ⟨h.box.put3 hB _ _ _ _ _ _ _,s,p,n,c,r,m,d,?_,h.box.rat3 hB hq _ _ _ _ _ _ _⟩
 obtain ⟨s',p',n',c',r',m',d',h1,-⟩:=h.num
 have e1:=heap_set B 0 _ 62 (.bool s) h1
 have e2:=heap_set B 1 _ 62 (.slice p n c) e1
 have e3:=heap_set B 2 _ 62 (.slice r m d) e2
 rw [e3];rfl
theorem elem58:Tryz.prog.underlying 58=some (.slice (Tryz.prog.elem 58)):=by kernel_rfl
theorem size58 (W:World):(sizeOf (Tryz.prog.elem 58)).run Tryz.prog W=.ok 3 W:=by kernel_rfl
theorem slice_one (b off n c:Nat) (hkn:1≤n) (hnc:n≤c):∃ o,(1<n→o=off+3)∧∀ W,(Instr.sliceAt 58 (.slice (some ⟨b,off,none⟩) n c) (some (.int .i64 1)) none none).run Tryz.prog W=.ok (.slice (some ⟨b,o,none⟩) (n-1) (c-1)) W:=by
 by_cases hc:c=1
 ·refine ⟨off,fun h=>by omega,fun W=>?_⟩
  rw [run_sliceAt_slice W 58 _ _ _ _ elem58,run_slice_l W 58 _ _ _ elem58 .i64 (1:Int) (by omega) (by omega),size58]
  simp [Result.andThen,sliced,hc]
 ·refine ⟨off+3,fun _=>rfl,fun W=>?_⟩
  rw [run_sliceAt_slice W 58 _ _ _ _ elem58,run_slice_l W 58 _ _ _ elem58 .i64 (1:Int) (by omega) (by omega),size58]
  simp [Result.andThen,sliced,hc,Addr.add]
theorem best_take (red:Int) {qs:List Rat} {i:Nat} (h:i+1<qs.length):bestQ red (qs.take (i+1+1))=if beat red (qs.getD (i+1) 0) (bestQ red (qs.take (i+1))) then qs.getD (i+1) 0 else bestQ red (qs.take (i+1)):=by
 have hne:qs.take (i+1)≠[]:=by
  intro e
  have h3:(qs.take (i+1)).length=i+1:=by rw [List.length_take];omega
  rw [e] at h3;simp at h3
 rw [List.take_succ_eq_append_getElem h,best_snoc,if_neg hne,List.getD_eq_getElem?_getD,List.getElem?_eq_getElem h]
 rfl
theorem ext_zero (p:Option Addr) (c:Nat) (f:Value) (w:World):Calls Tryz.prog 95 #[.slice p 0 c,f] w (TxtPost [] w):=by
 unfold TxtPost
 go_enter Tryz.func95,Tryz.ntmps95
 go_wp2_with fail
 go_ret
 exact ⟨rfl,Below.refl _ _⟩
theorem ext_any (red:Int) (F:FuncId) (bt:Int→Bool) (hent:∀ args W,(callFunc F args).run Tryz.prog W=.ok (.enter F args) W) (HF:Hid (∀ c W,Calls Tryz.prog F #[.int .i64 c] W fun e w'=>W=w'∧e=.returned (.bool (bt c)))) (HBT:Hid (∀ q r,bt (sgnR (q-r))=beat red q r))
  (b off n c:Nat) (qs:List Rat) (w:World) (hl:qs.length=n+1) (hn:n+1≤1000) (hnc:n+1≤c) (hr:RdQ w (some ⟨b,off,none⟩) qs 20) (ht:Tab w):Calls Tryz.prog 95 #[.slice (some ⟨b,off,none⟩) (n+1) c,.func (.func F) #[] #[]] w (TxtPost (txt (bestQ red qs)) w):=by
 obtain ⟨hbl,hcells⟩:b<w.heap.size∧∀ j,j<n+1→∃ x,Cells3 w b (off+j*3) x∧RatIs w x (qs.getD j 0) 20:=by
  rcases hr with h|⟨b',off',h1,h2,h3⟩
  ·omega
  ·cases h1;exact ⟨h2,fun j hj=>h3 j (by omega)⟩
 obtain ⟨o2,ho2,hs⟩:=slice_one b off (n+1) c (by omega) hnc
 have HO2:=hiD ho2
 rw [Nat.add_sub_cancel] at hs
 obtain ⟨c2,HC2⟩:∃ c2,Hid (c-1=c2):=⟨_,hiD rfl⟩
 rw [HC2.out] at hs
 have HT:=hiD ht
 have HL:=hiD hl
 obtain ⟨x0,hx0,hq0⟩:=hcells 0 (by omega)
 rw [Nat.zero_mul,Nat.add_zero] at hx0
 obtain ⟨bx,px,nx,cx,rx,mx,dx,rfl,c0,c1,c3⟩:=hx0
 have HCE:=hiD hcells
 obtain ⟨G,HG⟩:∃ G,Hid (w.heap.size=G):=⟨_,hiD rfl⟩
 obtain ⟨W1,HW1⟩:∃ W1,Hid (w.alloc (.cells #[.bool bx,.slice px nx cx,.slice rx mx dx] 62)=W1):=⟨_,hiD rfl⟩
 have HB1:Hid (Below w.heap.size w W1):=hiD (by rw [← HW1.out];exact bea _ _)
 have HS:Hid (BestB G w W1 (bestQ red (qs.take (0+1)))):=hiD (by
  have e:bestQ red (qs.take (0+1))=qs.getD 0 0:=by
   cases qs with
   | nil=>simp at hl
   | cons a l=>rfl
  rw [e,← HW1.out,← HG.out]
  exact ⟨⟨by simp,bea _ _,.bool bx,.slice px nx cx,.slice rx mx dx,heap_new _ _,noInt_bool _,noInt_slice _ _ _,noInt_slice _ _ _⟩,bx,px,nx,cx,rx,mx,dx,heap_new _ _,hq0.below (bea _ _)⟩)
 have hn0:(0:Int)≤(n:Int):=by omega
 have hn1:(n:Int)+1≤1000:=by omega
 have he:((n:Int)+1==0)=false:=by simp;omega
 have HBL:=hiD hbl
 have hGw:Hid (w.heap.size≤G):=hiD (by rw [HG.out];exact Nat.le_refl _)
 clear hr ht hl hcells hq0 hbl ho2 hnc
 unfold TxtPost
 go_enter Tryz.func95,Tryz.ntmps95
 go_wp2_with fail
 rw [HW1.out,HG.out]
 go_loopw [17] (fun iv wr=>∃ i:Nat,i≤n∧iv=.int .i64 (i:Int)∧Hid (BestB G w wr (bestQ red (qs.take (i+1))))) (fun iv _=>n-(intOf iv).toNat)
 case atStart=>exact ⟨0,Nat.zero_le _,rfl,HS⟩
 case round =>
  obtain ⟨i,hin,rfl,hs0⟩:=hrel
  have HB:=hiD hs0.out
  clear hs0 HS c0 c1 c3
  by_cases hlt:i<n
  ·obtain rfl:o2=off+3:=HO2.out (by omega)
   obtain ⟨x,hx,hq⟩:=HCE.out (i+1) (by omega)
   rw [show off+(i+1)*3=off+3+i*3 by omega] at hx
   obtain ⟨xb,xp,xn,xc,xr,xm,xd,rfl,d0,d1,d2⟩:=hx.below HBL.out HB.out.box.below
   have HQX:=hiD (hq.below HB.out.box.below)
   have HTK:=hiD (best_take red (qs:=qs) (i:=i) (by have:=HL.out;omega))
   obtain ⟨q1,HQ1⟩:∃ q1,Hid (qs.getD (i+1) 0=q1):=⟨_,hiD rfl⟩
   obtain ⟨q2,HQ2⟩:∃ q2,Hid (bestQ red (qs.take (i+1))=q2):=⟨_,hiD rfl⟩
   rw [HQ1.out] at HQX HTK
   rw [HQ2.out] at HB HTK
   obtain ⟨W4,HW4⟩:∃ W4,Hid (wr.alloc (.cells #[.bool xb,.slice xp xn xc,.slice xr xm xd] 62)=W4):=⟨_,hiD rfl⟩
   have HB4:Hid (Below wr.heap.size wr W4):=hiD (by rw [← HW4.out];exact bea _ _)
   have HX4:Hid (W4.heap[wr.heap.size]?=some (.cells #[.bool xb,.slice xp xn xc,.slice xr xm xd] 62 (0,0))):=hiD (by rw [← HW4.out];exact heap_new _ _)
   obtain ⟨G2,HG2⟩:∃ G2,Hid (wr.heap.size=G2):=⟨_,hiD rfl⟩
   rw [HG2.out] at HX4
   have HG2W:Hid (G2<W4.heap.size):=hiD (Array.getElem?_eq_some_iff.1 HX4.out).1
   have HSB4:=hiD (HB.out.next HB4.out)
   have hi0:(0:Int)≤(i:Int):=by omega
   have hi1:(i:Int)<(n:Int):=by omega
   clear hx hq
   go_upto_region 7 with fail
   rw [HW4.out,HG2.out]
   obtain ⟨s0,p0,n0,k0,r0,m0,e0,hblk,hqb⟩:=HSB4.out.num
   have f0:=ceh hblk 0
   have f1:=ceh hblk 1
   have f2:=ceh hblk 2
   have g0:=ceh HX4.out 0
   have g1:=ceh HX4.out 1
   have g2:=ceh HX4.out 2
   simp only [List.getElem?_toArray,List.getElem?_cons_succ,List.getElem?_cons_zero] at f0 f1 f2 g0 g1 g2
   have HSUB:=hiD (sub_is (.agg #[.bool xb,.slice xp xn xc,.slice xr xm xd]) (.agg #[.bool s0,.slice p0 n0 k0,.slice r0 m0 e0]) q1 q2 20 W4 (by omega) (HQX.out.below HB4.out) hqb)
   clear hblk hqb
   go_wp2_with fail
   refine HSUB.out.mono ?_
   rintro e w5 ⟨z,rfl,hz,hb5⟩
   have HSG:=hiD (sign_is z _ _ w5 hz)
   have HB5:=hiD hb5
   clear hb5 hz f0 f1 f2 g0 g1 g2
   go_wp2_with fail
   refine HSG.out.mono ?_
   rintro e w6 ⟨rfl,hb6⟩
   have HB6:=hiD (HB5.out.trans (hb6.mono HB5.out.size))
   clear hb6
   go_wp2_with fail
   refine (HF.out _ w6).mono ?_
   rintro e w7 ⟨rfl,rfl⟩
   rw [HBT.out]
   have HSB6:=hiD (HSB4.out.next HB6.out)
   cases hbt:beat red q1 q2 with
   | false =>
    rw [hbt] at HTK
    have HEND:Hid (BestB G w w6 (bestQ red (qs.take (i+1+1)))):=hiD (by rw [HTK.out];exact HSB6.out)
    go_wp2_with fail
    go_roundw
    case rel=>exact ⟨i+1,by omega,by go_num,HEND⟩
    case measure=>simp [intOf];omega
   | true =>
    rw [hbt] at HTK
    have HX6:=(HB6.out.block G2 HG2W.out).trans HX4.out
    have g0:=ceh HX6 0
    have g1:=ceh HX6 1
    have g2:=ceh HX6 2
    simp only [List.getElem?_toArray,List.getElem?_cons_succ,List.getElem?_cons_zero] at g0 g1 g2
    obtain ⟨z0,z1,z2,l0,l1,l2,e0,e1,e2⟩:=HSB6.out.box.slots
    have HEND:Hid (∀ W9,W9=(((w6.setCell ⟨G,0,none⟩ (.bool xb)).setCell ⟨G,1,none⟩ (.slice xp xn xc)).setCell ⟨G,2,none⟩ (.slice xr xm xd))→BestB G w W9 (bestQ red (qs.take (i+1+1)))):=hiD (by
     rintro W9 rfl
     rw [HTK.out]
     simp only [if_true]
     exact HSB6.out.put hGw.out (HQX.out.below (HB4.out.trans (HB6.out.mono HB4.out.size))))
    clear HX6
    go_wp2_with fail
    go_roundw
    case rel=>exact ⟨i+1,by omega,by go_num,hiD (HEND.out _ rfl)⟩
    case measure=>simp [intOf];omega
  ·obtain rfl:i=n:=by omega
   have HTE:Hid (qs.take (i+1)=qs):=hiD (by rw [List.take_of_length_le (by have:=HL.out;omega)])
   rw [HTE.out] at HB
   obtain ⟨s0,p0,n0,k0,r0,m0,e0,hblk,hqb⟩:=HB.out.num
   have f0:=ceh hblk 0
   have f1:=ceh hblk 1
   have f2:=ceh hblk 2
   simp only [List.getElem?_toArray,List.getElem?_cons_succ,List.getElem?_cons_zero] at f0 f1 f2
   have HTX:=hiD (atext_is _ _ _ wr (by omega) hqb (HT.out.below HB.out.box.below))
   have HBB:=hiD HB.out.box.below
   clear hblk hqb
   go_wp2_with fail
   refine HTX.out.mono ?_
   rintro e w8 ⟨rfl,hb8⟩
   have HB8:=hiD (HBB.out.trans (hb8.mono HBB.out.size))
   clear hb8
   go_wp2_with fail
   go_ret
   exact ⟨rfl,HB8.out⟩
theorem lt_fn (c:Int) (W:World):Calls Tryz.prog 96 #[.int .i64 c] W fun e w'=>W=w'∧e=.returned (.bool (decide (c<0))):=by
 go_enter Tryz.func96,Tryz.ntmps96
 go_wp2_with fail
 go_ret
 exact ⟨rfl,by first|rfl|simp⟩
theorem gt_fn (c:Int) (W:World):Calls Tryz.prog 97 #[.int .i64 c] W fun e w'=>W=w'∧e=.returned (.bool (decide (0<c))):=by
 go_enter Tryz.func97,Tryz.ntmps97
 go_wp2_with fail
 go_ret
 exact ⟨rfl,by first|rfl|simp⟩
theorem hent96:∀ args W,(callFunc 96 args).run Tryz.prog W=.ok (.enter 96 args) W:=by
 intro args W;kernel_rfl
theorem hent97:∀ args W,(callFunc 97 args).run Tryz.prog W=.ok (.enter 97 args) W:=by
 intro args W;kernel_rfl
theorem ext_sl (red:Int) (F:FuncId) (bt:Int→Bool) (hent:∀ args W,(callFunc F args).run Tryz.prog W=.ok (.enter F args) W) (HF:Hid (∀ c W,Calls Tryz.prog F #[.int .i64 c] W fun e w'=>W=w'∧e=.returned (.bool (bt c)))) (HBT:Hid (∀ q r,bt (sgnR (q-r))=beat red q r))
  (p:Option Addr) (m c:Nat) (qs:List Rat) (w:World) (h:SlQ w p m c qs) (ht:Tab w):Calls Tryz.prog 95 #[.slice p m c,.func (.func F) #[] #[]] w (TxtPost (if qs=[] then [] else txt (bestQ red qs)) w):=by
 obtain ⟨hl,hm,hc,hr,hp⟩:=h
 cases m with
 | zero =>
  rw [List.length_eq_zero_iff] at hl
  rw [if_pos hl]
  exact ext_zero p c _ w
 | succ n =>
  rw [if_neg (by intro e;subst e;simp at hl)]
  rcases hp with ⟨rfl,rfl⟩|⟨b,off,rfl⟩
  ·omega
  ·exact ext_any red F bt hent HF HBT b off n c qs w hl hm hc hr ht
theorem red_least (p:Option Addr) (m c:Nat) (qs:List Rat) (w:World) (h:SlQ w p m c qs) (ht:Tab w):Calls Tryz.prog 59 #[.slice p m c] w (TxtPost (if qs=[] then [] else txt (bestQ 3 qs)) w):=by
 have HC:=hiD (ext_sl 3 96 (fun c=>decide (c<0)) hent96 (hiD lt_fn) (hiD sgnR_neg) p m c qs w h ht)
 obtain ⟨y,HY⟩:∃ y,Hid ((if qs=[] then [] else txt (bestQ 3 qs))=y):=⟨_,hiD rfl⟩
 rw [HY.out] at HC ⊢
 clear h ht
 unfold TxtPost
 go_enter Tryz.func59,Tryz.ntmps59
 go_wp2_with fail
 refine HC.out.mono ?_
 rintro e w1 ⟨rfl,hb⟩
 have HB:=hiD hb
 clear hb
 go_wp2_with fail
 go_ret
 exact ⟨rfl,HB.out⟩
theorem red_greatest (p:Option Addr) (m c:Nat) (qs:List Rat) (w:World) (h:SlQ w p m c qs) (ht:Tab w):Calls Tryz.prog 60 #[.slice p m c] w (TxtPost (if qs=[] then [] else txt (bestQ 4 qs)) w):=by
 have HC:=hiD (ext_sl 4 97 (fun c=>decide (0<c)) hent97 (hiD gt_fn) (hiD sgnR_pos) p m c qs w h ht)
 obtain ⟨y,HY⟩:∃ y,Hid ((if qs=[] then [] else txt (bestQ 4 qs))=y):=⟨_,hiD rfl⟩
 rw [HY.out] at HC ⊢
 clear h ht
 unfold TxtPost
 go_enter Tryz.func60,Tryz.ntmps60
 go_wp2_with fail
 refine HC.out.mono ?_
 rintro e w1 ⟨rfl,hb⟩
 have HB:=hiD hb
 clear hb
 go_wp2_with fail
 go_ret
 exact ⟨rfl,HB.out⟩
def RedFn (F:FuncId) (red:Int):Prop:=(∀ args W,(callFunc F args).run Tryz.prog W=.ok (.enter F args) W)∧∀ p m c qs W,SlQ W p m c qs→Tab W→Calls Tryz.prog F #[.slice p m c] W (TxtPost (redT red qs) W)
theorem redfn_1:RedFn 57 1:=⟨fun args W=>by kernel_rfl,fun p m c qs W h ht=>red_sum p m c qs W h ht⟩
theorem redfn_2:RedFn 58 2:=⟨fun args W=>by kernel_rfl,fun p m c qs W h ht=>by
 by_cases hq:qs=[]
 ·have e:redT 2 qs=[]:=by unfold redT;rw [if_neg (by omega),if_neg (by omega),if_pos hq]
  rw [e]
  have:m=0:=by have:=h.1;subst hq;simpa using this.symm
  subst this
  exact red_mean0 p c W
 ·have e:redT 2 qs=txt (sumQ qs/((qs.length:Nat):Rat)):=by unfold redT;rw [if_neg (by omega),if_neg (by omega),if_neg hq,if_pos rfl]
  rw [e]
  exact red_mean1 p m c qs W h (by have:=h.1;have:=List.length_pos_iff.2 hq;omega) ht⟩
theorem redfn_3:RedFn 59 3:=⟨fun args W=>by kernel_rfl,fun p m c qs W h ht=>by
 have e:redT 3 qs=if qs=[] then [] else txt (bestQ 3 qs):=by unfold redT;rw [if_neg (by omega),if_neg (by omega),if_neg (by omega:¬ (3:Int)=2)]
 rw [e];exact red_least p m c qs W h ht⟩
theorem redfn_4:RedFn 60 4:=⟨fun args W=>by kernel_rfl,fun p m c qs W h ht=>by
 have e:redT 4 qs=if qs=[] then [] else txt (bestQ 4 qs):=by unfold redT;rw [if_neg (by omega),if_neg (by omega),if_neg (by omega:¬ (4:Int)=2)]
 rw [e];exact red_greatest p m c qs W h ht⟩
theorem redfn_5:RedFn 61 5:=⟨fun args W=>by kernel_rfl,fun p m c qs W h ht=>by
 have e:redT 5 qs=itoa qs.length:=by unfold redT;rw [if_neg (by omega),if_pos rfl]
 rw [e];exact red_count p m c qs W h ht⟩
theorem reduction_F (red:Int) (F:FuncId) (h:(red=1∧F=57)∨(red=2∧F=58)∨(red=3∧F=59)∨(red=4∧F=60)∨(red=5∧F=61)) (W:World):Calls Tryz.prog 24 #[.int .i64 red] W fun e w'=>W=w'∧e=.returned (.func (.func F) #[] #[]):=by
 rcases h with ⟨rfl,rfl⟩|⟨rfl,rfl⟩|⟨rfl,rfl⟩|⟨rfl,rfl⟩|⟨rfl,rfl⟩
 all_goals
  go_enter Tryz.func24,Tryz.ntmps24
  go_wp2_with fail
  go_ret
  exact ⟨rfl,rfl⟩
theorem reduction_any (red:Int) (h1:1≤red) (h5:red≤5):∃ F,RedFn F red∧∀ W,Calls Tryz.prog 24 #[.int .i64 red] W fun e w'=>W=w'∧e=.returned (.func (.func F) #[] #[]):=by
 rcases (show red=1∨red=2∨red=3∨red=4∨red=5 by omega) with rfl|rfl|rfl|rfl|rfl
 ·exact ⟨57,redfn_1,reduction_F _ _ (.inl ⟨rfl,rfl⟩)⟩
 ·exact ⟨58,redfn_2,reduction_F _ _ (.inr (.inl ⟨rfl,rfl⟩))⟩
 ·exact ⟨59,redfn_3,reduction_F _ _ (.inr (.inr (.inl ⟨rfl,rfl⟩)))⟩
 ·exact ⟨60,redfn_4,reduction_F _ _ (.inr (.inr (.inr (.inl ⟨rfl,rfl⟩))))⟩
 ·exact ⟨61,redfn_5,reduction_F _ _ (.inr (.inr (.inr (.inr ⟨rfl,rfl⟩))))⟩
theorem reduction_no (red:Int) (h:red<1∨5<red) (W:World):Calls Tryz.prog 24 #[.int .i64 red] W fun e w'=>W=w'∧e=.returned .nilFunc:=by
 have d1:(red==1)=false:=by simpa using (show ¬ red=1 by omega)
 have d2:(red==2)=false:=by simpa using (show ¬ red=2 by omega)
 have d3:(red==3)=false:=by simpa using (show ¬ red=3 by omega)
 have d4:(red==4)=false:=by simpa using (show ¬ red=4 by omega)
 have d5:(red==5)=false:=by simpa using (show ¬ red=5 by omega)
 clear h
 go_enter Tryz.func24,Tryz.ntmps24
 go_wp2_with fail
 go_ret
 exact ⟨rfl,rfl⟩
end Go.Proofs.YtlcpcpmlfegejaaGreatDoor
