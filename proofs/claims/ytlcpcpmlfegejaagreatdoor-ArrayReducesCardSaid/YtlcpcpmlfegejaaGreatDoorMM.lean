/- span: the positions from the first one to less than the end. -/
import Derived.Test.YtlcpcpmlfegejaaGreatDoorME
import Derived.Test.YtlcpcpmlfegejaaGreatDoorMK
import Derived.Test.YtlcpcpmlfegejaaGreatDoorML
set_option maxHeartbeats 2000000
set_option maxRecDepth 100000
namespace Go.Proofs.YtlcpcpmlfegejaaGreatDoor.Arr
open Go.RowKit Go.Shelf
open Go.Lib
attribute [local go_sem] Oper.semAt_some
def spanL (f e:Nat):List Nat:=(List.range (e-f)).map (f+·)
theorem spanL_len (f e:Nat):(spanL f e).length=e-f:=by simp [spanL]
theorem spanL_take {f e i:Nat} (h:f+i<e):(spanL f e).take (i+1)=(spanL f e).take i++[f+i]:=by
 have hi:i<(spanL f e).length:=by rw [spanL_len];omega
 rw [List.take_succ_eq_append_getElem hi]
 simp [spanL]
theorem span_next {f e i:Nat} (h:f+i<e):(spanL f e).take i++[f+i] <+: spanL f e:=by
 rw [← spanL_take h];exact List.take_prefix _ _
theorem span_all {f e i:Nat} (h:e≤f+i):(spanL f e).take i=spanL f e:=List.take_of_length_le (by rw [spanL_len];omega)
def SpAt (b1 b2 f e:Nat) (W:World):Prop:=W.heap[b1]?=some (.cells #[.int .i64 (f:Int)] 3 (0,0))∧W.heap[b2]?=some (.cells #[.int .i64 (e:Int)] 3 (0,0))
theorem SpAt.put {b1 b2 f e:Nat} {A:World} {l:Nat} {o o':Obj} (ho:A.heap[l]?=some o) (hc:o.isCells=false) (h:SpAt b1 b2 f e A):SpAt b1 b2 f e (A.putObj l o'):=by
 have hk:∀ {k:Nat} {cs:Array Value} {t:TypeId},A.heap[k]?=some (.cells cs t (0,0))→(A.putObj l o').heap[k]?=some (.cells cs t (0,0)):=fun {k cs t} hk=>by
  rw [World.putObj_heap_other (by intro e;subst e;rw [ho] at hk;cases hk;simp [Obj.isCells] at hc)];exact hk
 exact ⟨hk h.1,hk h.2⟩
theorem SpAt.gb {b1 b2 f e:Nat} {A B:World} {row:Option Nat} (h:SpAt b1 b2 f e A) (hg:A.grownBy B row) (hr:∀ r,row=some r→r≠b1∧r≠b2):SpAt b1 b2 f e B :=
 ⟨(hg.block b1 (Array.getElem?_eq_some_iff.1 h.1).1 (fun e=>(hr _ e.symm).1 rfl)).trans h.1,(hg.block b2 (Array.getElem?_eq_some_iff.1 h.2).1 (fun e=>(hr _ e.symm).2 rfl)).trans h.2⟩
theorem span_in (m:Nat) (hm:1≤m) (lr b1 b2 f e:Nat) (hf:f≤5000) (he:e≤5000) (W0:World) (J:List Nat→World→Prop)
  (hY:∀ pre x W1,J pre W1→SpAt b1 b2 f e W1→pre++[x] <+: spanL f e→YieldAt Fence.wide (m-1) Tryz.prog lr #[.int .i64 ((x:Nat):Int)] W1 fun en W'=>en=.returned (.bool true)∧J (pre++[x]) W'∧SpAt b1 b2 f e W')
  (hat:SpAt b1 b2 f e W0) (h0:J [] W0) :
  CallsIn Fence.wide m Tryz.prog 77 #[.func (.yield lr) #[] #[],.pointer (some ⟨b1,0,none⟩),.pointer (some ⟨b2,0,none⟩)] W0 fun en W'=>(∃ v,en=.returned v)∧∃ xs:List Nat,xs=spanL f e∧J xs W':=by
 have HY:=Lib.hid hY
 have hfi:(f:Int)≤5000:=by omega
 have hei:(e:Int)≤5000:=by omega
 have c1:W0.cell? ⟨b1,0,none⟩=some (.int .i64 (f:Int)):=by simp [World.cell?,hat.1]
 have HS:Hid (J [] W0∧SpAt b1 b2 f e W0):=Lib.hid ⟨h0,hat⟩
 clear hY hat h0
 refine callsIn_of_wp Tryz.func77 rfl trivial ?_ rfl
 simp only [Tryz.ntmps77,List.size_toArray,List.length_cons,List.length_nil,Nat.reduceAdd,Nat.reduceSub,Array.replicate_succ,Array.replicate_zero,List.push_toArray,List.append_toArray,List.nil_append,List.cons_append]
 gi_wp2
 clear c1
 gi_loopw [4] (fun iv wr=>∃ i:Nat,iv=.int .i64 ((f+i:Nat):Int)∧i≤e-f∧Hid (J ((spanL f e).take i) wr∧SpAt b1 b2 f e wr)) (fun iv _=>e-(intOf iv).toNat)
 case atStart=>exact ⟨0,rfl,Nat.zero_le _,HS⟩
 case round =>
  obtain ⟨i,rfl,hi,HJ⟩:=hrel
  have c2:wr.cell? ⟨b2,0,none⟩=some (.int .i64 (e:Int)):=by simp [World.cell?,HJ.out.2.2]
  by_cases hlt:f+i<e
  ·have ilt:((f+i:Nat):Int)<(e:Int):=by omega
   have i0:(0:Int)≤((f+i:Nat):Int):=by omega
   obtain ⟨k,HK⟩:∃ k,Hid (f+i=k):=⟨_,Lib.hid rfl⟩
   obtain ⟨fn,tmps,assign,body,hy,hRo⟩:=HY.out ((spanL f e).take i) (f+i) wr HJ.out.1 HJ.out.2 (span_next hlt)
   have hy2:(Instr.yield lr #[.int .i64 (((f+i:Nat)):Int)]).run Tryz.prog wr=.ok (.round lr fn tmps assign body) wr:=hy
   clear hy
   rw [HK.out] at hy2 ilt i0 hRo ⊢
   gi_wp2
   refine hRo.mono ?_
   rintro en W3 ⟨rfl,hJ3,hat3⟩
   have HEND:Hid (J ((spanL f e).take (i+1)) W3∧SpAt b1 b2 f e W3):=Lib.hid ⟨by rw [spanL_take hlt,HK.out];exact hJ3,hat3⟩
   clear hJ3 hat3 hy2 c2
   gi_wp2
   go_roundw
   case rel=>exact ⟨i+1,by rw [show f+(i+1)=k+1 by rw [← HK.out];omega];go_num,by omega,HEND⟩
   case measure=>simp [intOf];have:=HK.out;omega
  ·have ilt:¬ ((f+i:Nat):Int)<(e:Int):=by omega
   obtain ⟨k,HK⟩:∃ k,Hid (f+i=k):=⟨_,Lib.hid rfl⟩
   have HEND:Hid (J (spanL f e) wr):=Lib.hid (by have:=HJ.out.1;rwa [span_all (by omega)] at this)
   rw [HK.out] at ilt ⊢
   gi_wp2
   go_end0
   exact ⟨⟨_,rfl⟩,HEND.out⟩
theorem span_it (V b1 b2 f e:Nat) (hf:f≤5000) (he:e≤5000) (W0:World) (h:SpAt b1 b2 f e W0) (hb1:V+2≤b1) (hb2:V+2≤b2):ItOk V 77 #[.pointer (some ⟨b1,0,none⟩),.pointer (some ⟨b2,0,none⟩)] (spanL f e) W0:=by
 have h1:=(Array.getElem?_eq_some_iff.1 h.1).1
 have h2:=(Array.getElem?_eq_some_iff.1 h.2).1
 refine ⟨enters_of Tryz.func77 (by kernel_rfl) rfl,SpAt b1 b2 f e,h,fun A B row hA hg hr=>hA.gb hg (fun r e=>by have:=hr r e;omega),fun A l o o' ho hc hA=>hA.put ho hc,fun n hn lr J W hW hW2 hJ hY h0=>?_⟩
 exact span_in n hn lr b1 b2 f e hf he W J hY ⟨(hW.block b1 h1).trans h.1,(hW.block b2 h2).trans h.2⟩ h0
theorem span_any (V f e:Nat) (hf:f≤5000) (he:e≤5000) (W:World) (hV:V+2≤W.heap.size):Calls Tryz.prog 32 #[.int .i64 (f:Int),.int .i64 (e:Int)] W fun en W'=>Below W.heap.size W W'∧∃ g lb,en=.returned (.func (.func g) #[] lb)∧ItOk V g lb (spanL f e) W':=by
 have HFIN:Hid (∀ W',W'=(W.alloc (.cells #[.int .i64 (f:Int)] 3)).alloc (.cells #[.int .i64 (e:Int)] 3)→Below W.heap.size W W'∧ItOk V 77 #[.pointer (some ⟨W.heap.size,0,none⟩),.pointer (some ⟨W.heap.size+1,0,none⟩)] (spanL f e) W'):=Lib.hid (by
  rintro W' rfl
  refine ⟨((Below.refl _ W).alloc (Nat.le_refl _) _).alloc (by simp) _,span_it V _ _ f e hf he _ ⟨?_,?_⟩ hV (by omega)⟩
  ·simp only [World.alloc,Array.getElem?_push,Array.size_push]
   repeat' (first|rw [if_pos (by omega)] | rw [if_neg (by omega)] | rfl)
  ·simp only [World.alloc,Array.getElem?_push,Array.size_push]
   repeat' (first|rw [if_pos (by omega)] | rw [if_neg (by omega)] | rfl))
 clear hf he hV
 go_enter Tryz.func32,Tryz.ntmps32
 go_wp2_with fail
 go_ret
 obtain ⟨h1,h2⟩:=HFIN.out _ rfl
 exact ⟨h1,_,_,rfl,h2⟩
end Go.Proofs.YtlcpcpmlfegejaaGreatDoor.Arr
set_option maxHeartbeats 8000000
set_option maxRecDepth 100000
namespace Go.Proofs.YtlcpcpmlfegejaaGreatDoor.Arr
open Go.RowKit Go.Shelf
open Go.Lib
attribute [local go_sem] Oper.semAt_some
theorem getD_dim {s:List Nat} {a n:Nat} (hs:s.length=n) (ha:a<n) (hb:∀ x ∈ s,x≤1024):s.getD a 0≤1024:=by
 rw [List.getD_eq_getElem?_getD,List.getElem?_eq_getElem (by omega)]
 exact hb _ (List.getElem_mem _)
theorem whole_part (AB AX pb po c d n N a:Nat) (q:Option Addr) (s:List Nat) (w1:World) (hs:Hid (s.length=n)) (ha:a<n) (hn:n≤4) (hb:Hid (∀ x ∈ s,x≤1024))
  (hAB:Hid (w1.heap[AB]?=some (.cells #[.slice (some ⟨pb,po,none⟩) n c,.slice q N d] 31 (0,0)))) (hAX:Hid (w1.heap[AX]?=some (.cells #[.int .i64 (a:Int)] 3 (0,0)))) (hp:Hid (RdN w1 (some ⟨pb,po,none⟩) s)) :
  PartOk w1 w1.heap.size 31 #[.pointer (some ⟨AB,0,none⟩),.pointer (some ⟨AX,0,none⟩)] (fun _=>spanL 0 (s.getD a 0)) 1:=by
 refine ⟨fun args W=>by kernel_rfl,fun i W hi hW hWV=>?_⟩
 show Calls Tryz.prog 31 #[.int .i64 (i:Int),.pointer (some ⟨AB,0,none⟩),.pointer (some ⟨AX,0,none⟩)] W _
 have hai:(a:Int)<(n:Int):=by omega
 have hni:(n:Int)≤4:=by omega
 have HAN:=Lib.hid ha
 obtain ⟨cap,HCAP⟩:∃ cap,Hid (s.getD a 0=cap):=⟨_,Lib.hid rfl⟩
 have HC:Hid (cap≤5000):=Lib.hid (by have:=getD_dim hs.out ha hb.out;rw [← HCAP.out];omega)
 have x0:W.cell? ⟨AB,0,none⟩=some (.slice (some ⟨pb,po,none⟩) n c):=ceh ((hW.block AB (Array.getElem?_eq_some_iff.1 hAB.out).1).trans hAB.out) 0
 have x1:W.cell? ⟨AX,0,none⟩=some (.int .i64 (a:Int)):=ceh ((hW.block AX (Array.getElem?_eq_some_iff.1 hAX.out).1).trans hAX.out) 0
 have x2:W.cell? ⟨pb,po+a,none⟩=some (.int .i64 (cap:Int)):=by
  obtain ⟨b',off',x,e1,-,h3,HX⟩:=(hp.out.below hW).at (k:=a) (by rw [hs.out];exact ha)
  cases e1
  rw [h3,HX.out,HCAP.out]
 have H32:Hid (Calls Tryz.prog 32 #[.int .i64 0,.int .i64 (cap:Int)] W fun en W'=>Below W.heap.size W W'∧∃ g lb,en=.returned (.func (.func g) #[] lb)∧ItOk w1.heap.size g lb (spanL 0 cap) W'):=Lib.hid (span_any w1.heap.size 0 cap (by omega) HC.out W hWV)
 clear hi hW hWV ha
 rw [HCAP.out]
 go_enter Tryz.func31,Tryz.ntmps31
 go_wp2_with fail
 refine H32.out.mono ?_
 rintro e w' ⟨hb',g,lb,rfl,hit⟩
 have HFIN:=Lib.hid (And.intro hb' hit)
 clear hb' hit x0 x1 x2
 go_wp2_with fail
 go_ret
 exact ⟨HFIN.out.1,_,_,rfl,HFIN.out.2⟩
theorem reduce_err2 (p q:Option Addr) (c d n N:Nat) (a red:Int) (w:World)
  (H30:Hid (∀ W,Below w.heap.size w W→Calls Tryz.prog 30 #[.agg #[.slice p n c,.slice q N d],.int .i64 a,.int .i64 red] W fun e w'=>Below W.heap.size W w'∧e=.returned (.int .i64 2))) :
  Calls Tryz.prog 13 #[.agg #[.slice p n c,.slice q N d],.int .i64 a,.int .i64 red] w (ArrPost w 2 [] []):=by
 obtain ⟨A,HA⟩:∃ A,Hid (w.heap.size=A):=⟨_,Lib.hid rfl⟩
 obtain ⟨W0,HW0⟩:∃ W0,Hid (((w.alloc (.cells #[.slice p n c,.slice q N d] 31)).alloc (.cells #[.int .i64 a] 3)).alloc (.cells #[.slice none 0 0,.slice none 0 0] 31)=W0):=⟨_,Lib.hid rfl⟩
 have HB0:Hid (Below w.heap.size w W0):=Lib.hid (by rw [← HW0.out];exact (((Below.refl _ w).alloc (Nat.le_refl _) _).alloc (by simp) _).alloc (by simp;omega) _)
 have HS0:Hid (W0.heap.size=A+1+1+1):=Lib.hid (by rw [← HW0.out,← HA.out];simp)
 have HA0:Hid (W0.heap[A]?=some (.cells #[.slice p n c,.slice q N d] 31 (0,0))):=Lib.hid (by
  rw [← HW0.out,← HA.out]
  simp only [World.alloc,Array.getElem?_push,Array.size_push]
  repeat' (first|rw [if_pos (by omega)] | rw [if_neg (by omega)] | rfl))
 have HA1:Hid (W0.heap[A+1]?=some (.cells #[.int .i64 a] 3 (0,0))):=Lib.hid (by
  rw [← HW0.out,← HA.out]
  simp only [World.alloc,Array.getElem?_push,Array.size_push]
  repeat' (first|rw [if_pos (by omega)] | rw [if_neg (by omega)] | rfl))
 have HA2:Hid (W0.heap[A+1+1]?=some (.cells #[.slice none 0 0,.slice none 0 0] 31 (0,0))):=Lib.hid (by
  rw [← HW0.out,← HA.out]
  simp only [World.alloc,Array.getElem?_push,Array.size_push]
  repeat' (first|rw [if_pos (by omega)] | rw [if_neg (by omega)] | rfl))
 have HBX:Hid (∀ W',Below W0.heap.size W0 W'→Below w.heap.size w W'∧W'.heap[A]?=some (.cells #[.slice p n c,.slice q N d] 31 (0,0))∧W'.heap[A+1]?=some (.cells #[.int .i64 a] 3 (0,0))∧W'.heap[A+1+1]?=some (.cells #[.slice none 0 0,.slice none 0 0] 31 (0,0))):=Lib.hid (fun W' hb =>
  ⟨HB0.out.trans (hb.mono HB0.out.size),(hb.block _ (by rw [HS0.out];omega)).trans HA0.out,(hb.block _ (by rw [HS0.out];omega)).trans HA1.out,(hb.block _ (by rw [HS0.out];omega)).trans HA2.out⟩)
 have HLE:Hid (w.heap.size≤A):=Lib.hid (by rw [HA.out];exact Nat.le_refl _)
 obtain ⟨-,x0,x1,-⟩:=HBX.out W0 (Below.refl _ _)
 have a0:W0.cell? ⟨A,0,none⟩=some (.slice p n c):=ceh x0 0
 have a1:W0.cell? ⟨A,1,none⟩=some (.slice q N d):=ceh x0 1
 have a2:W0.cell? ⟨A+1,0,none⟩=some (.int .i64 a):=ceh x1 0
 clear x0 x1
 replace H30:=Lib.hid (H30.out W0 HB0.out)
 go_enter Tryz.func13,Tryz.ntmps13
 go_wp2_with fail
 rw [HW0.out,HA.out]
 go_wp2_with fail
 refine H30.out.mono ?_
 rintro e w1 ⟨hb1,rfl⟩
 have HBw1:=Lib.hid hb1
 obtain ⟨-,x0,x1,-⟩:=HBX.out w1 hb1
 have c0:w1.cell? ⟨A,0,none⟩=some (.slice p n c):=ceh x0 0
 have c1:w1.cell? ⟨A,1,none⟩=some (.slice q N d):=ceh x0 1
 have c2:w1.cell? ⟨A+1,0,none⟩=some (.int .i64 a):=ceh x1 0
 clear hb1 x0 x1 a0 a1 a2
 clear c0 c1 c2
 obtain ⟨hbw,-,-,y1⟩:=HBX.out w1 HBw1.out
 have r0:w1.cell? ⟨A+1+1,0,none⟩=some (.slice none 0 0):=ceh y1 0
 have r1:w1.cell? ⟨A+1+1,1,none⟩=some (.slice none 0 0):=ceh y1 1
 have z0:w1.frozen? ⟨A+1+1,0,none⟩=false:=foh y1 0
 have z1:w1.frozen? ⟨A+1+1,1,none⟩=false:=foh y1 1
 have hE1:=heap_set w1 (A+1+1) 0 (.slice none 0 0) _ _ y1
 have hE2:=heap_set _ (A+1+1) 1 (.slice none 0 0) _ _ hE1
 obtain ⟨W7,HW7⟩:∃ W7,Hid ((w1.setCell ⟨A+1+1,0,none⟩ (.slice none 0 0)).setCell ⟨A+1+1,1,none⟩ (.slice none 0 0)=W7):=⟨_,Lib.hid rfl⟩
 rw [HW7.out] at hE2
 have k0:W7.cell? ⟨A+1+1,0,none⟩=some (.slice none 0 0):=ceh hE2 0
 have k1:W7.cell? ⟨A+1+1,1,none⟩=some (.slice none 0 0):=ceh hE2 1
 have HFIN:Hid (ArrPost w 2 [] [] (.returned (.tuple #[.agg #[.slice none 0 0,.slice none 0 0],.int .i64 2])) W7):=Lib.hid (arr_no (by
  have:=HLE.out
  rw [← HW7.out]
  exact (hbw.setCell (p:=⟨A+1+1,0,none⟩) (by show w.heap.size≤A+1+1;omega) _).setCell (p:=⟨A+1+1,1,none⟩) (by show w.heap.size≤A+1+1;omega) _))
 clear hE1 hE2 y1 hbw
 go_wp2_with fail
 (try simp only [Exit.inBlock,Exit.then])
 rw [HW7.out]
 refine bodyPost_ret (v:=.tuple #[.agg #[.slice none 0 0,.slice none 0 0],.int .i64 2]) ?_ rfl HFIN.out
 rw [results_cell_tmp rfl]
 go_simp
theorem reduce_err60 (p q:Option Addr) (c d n N:Nat) (a red:Int) (w:World)
  (H30:Hid (∀ W,Below w.heap.size w W→Calls Tryz.prog 30 #[.agg #[.slice p n c,.slice q N d],.int .i64 a,.int .i64 red] W fun e w'=>Below W.heap.size W w'∧e=.returned (.int .i64 60))) :
  Calls Tryz.prog 13 #[.agg #[.slice p n c,.slice q N d],.int .i64 a,.int .i64 red] w (ArrPost w 60 [] []):=by
 obtain ⟨A,HA⟩:∃ A,Hid (w.heap.size=A):=⟨_,Lib.hid rfl⟩
 obtain ⟨W0,HW0⟩:∃ W0,Hid (((w.alloc (.cells #[.slice p n c,.slice q N d] 31)).alloc (.cells #[.int .i64 a] 3)).alloc (.cells #[.slice none 0 0,.slice none 0 0] 31)=W0):=⟨_,Lib.hid rfl⟩
 have HB0:Hid (Below w.heap.size w W0):=Lib.hid (by rw [← HW0.out];exact (((Below.refl _ w).alloc (Nat.le_refl _) _).alloc (by simp) _).alloc (by simp;omega) _)
 have HS0:Hid (W0.heap.size=A+1+1+1):=Lib.hid (by rw [← HW0.out,← HA.out];simp)
 have HA0:Hid (W0.heap[A]?=some (.cells #[.slice p n c,.slice q N d] 31 (0,0))):=Lib.hid (by
  rw [← HW0.out,← HA.out]
  simp only [World.alloc,Array.getElem?_push,Array.size_push]
  repeat' (first|rw [if_pos (by omega)] | rw [if_neg (by omega)] | rfl))
 have HA1:Hid (W0.heap[A+1]?=some (.cells #[.int .i64 a] 3 (0,0))):=Lib.hid (by
  rw [← HW0.out,← HA.out]
  simp only [World.alloc,Array.getElem?_push,Array.size_push]
  repeat' (first|rw [if_pos (by omega)] | rw [if_neg (by omega)] | rfl))
 have HA2:Hid (W0.heap[A+1+1]?=some (.cells #[.slice none 0 0,.slice none 0 0] 31 (0,0))):=Lib.hid (by
  rw [← HW0.out,← HA.out]
  simp only [World.alloc,Array.getElem?_push,Array.size_push]
  repeat' (first|rw [if_pos (by omega)] | rw [if_neg (by omega)] | rfl))
 have HBX:Hid (∀ W',Below W0.heap.size W0 W'→Below w.heap.size w W'∧W'.heap[A]?=some (.cells #[.slice p n c,.slice q N d] 31 (0,0))∧W'.heap[A+1]?=some (.cells #[.int .i64 a] 3 (0,0))∧W'.heap[A+1+1]?=some (.cells #[.slice none 0 0,.slice none 0 0] 31 (0,0))):=Lib.hid (fun W' hb =>
  ⟨HB0.out.trans (hb.mono HB0.out.size),(hb.block _ (by rw [HS0.out];omega)).trans HA0.out,(hb.block _ (by rw [HS0.out];omega)).trans HA1.out,(hb.block _ (by rw [HS0.out];omega)).trans HA2.out⟩)
 have HLE:Hid (w.heap.size≤A):=Lib.hid (by rw [HA.out];exact Nat.le_refl _)
 obtain ⟨-,x0,x1,-⟩:=HBX.out W0 (Below.refl _ _)
 have a0:W0.cell? ⟨A,0,none⟩=some (.slice p n c):=ceh x0 0
 have a1:W0.cell? ⟨A,1,none⟩=some (.slice q N d):=ceh x0 1
 have a2:W0.cell? ⟨A+1,0,none⟩=some (.int .i64 a):=ceh x1 0
 clear x0 x1
 replace H30:=Lib.hid (H30.out W0 HB0.out)
 go_enter Tryz.func13,Tryz.ntmps13
 go_wp2_with fail
 rw [HW0.out,HA.out]
 go_wp2_with fail
 refine H30.out.mono ?_
 rintro e w1 ⟨hb1,rfl⟩
 have HBw1:=Lib.hid hb1
 obtain ⟨-,x0,x1,-⟩:=HBX.out w1 hb1
 have c0:w1.cell? ⟨A,0,none⟩=some (.slice p n c):=ceh x0 0
 have c1:w1.cell? ⟨A,1,none⟩=some (.slice q N d):=ceh x0 1
 have c2:w1.cell? ⟨A+1,0,none⟩=some (.int .i64 a):=ceh x1 0
 clear hb1 x0 x1 a0 a1 a2
 clear c0 c1 c2
 obtain ⟨hbw,-,-,y1⟩:=HBX.out w1 HBw1.out
 have r0:w1.cell? ⟨A+1+1,0,none⟩=some (.slice none 0 0):=ceh y1 0
 have r1:w1.cell? ⟨A+1+1,1,none⟩=some (.slice none 0 0):=ceh y1 1
 have z0:w1.frozen? ⟨A+1+1,0,none⟩=false:=foh y1 0
 have z1:w1.frozen? ⟨A+1+1,1,none⟩=false:=foh y1 1
 have hE1:=heap_set w1 (A+1+1) 0 (.slice none 0 0) _ _ y1
 have hE2:=heap_set _ (A+1+1) 1 (.slice none 0 0) _ _ hE1
 obtain ⟨W7,HW7⟩:∃ W7,Hid ((w1.setCell ⟨A+1+1,0,none⟩ (.slice none 0 0)).setCell ⟨A+1+1,1,none⟩ (.slice none 0 0)=W7):=⟨_,Lib.hid rfl⟩
 rw [HW7.out] at hE2
 have k0:W7.cell? ⟨A+1+1,0,none⟩=some (.slice none 0 0):=ceh hE2 0
 have k1:W7.cell? ⟨A+1+1,1,none⟩=some (.slice none 0 0):=ceh hE2 1
 have HFIN:Hid (ArrPost w 60 [] [] (.returned (.tuple #[.agg #[.slice none 0 0,.slice none 0 0],.int .i64 60])) W7):=Lib.hid (arr_no (by
  have:=HLE.out
  rw [← HW7.out]
  exact (hbw.setCell (p:=⟨A+1+1,0,none⟩) (by show w.heap.size≤A+1+1;omega) _).setCell (p:=⟨A+1+1,1,none⟩) (by show w.heap.size≤A+1+1;omega) _))
 clear hE1 hE2 y1 hbw
 go_wp2_with fail
 (try simp only [Exit.inBlock,Exit.then])
 rw [HW7.out]
 refine bodyPost_ret (v:=.tuple #[.agg #[.slice none 0 0,.slice none 0 0],.int .i64 60]) ?_ rfl HFIN.out
 rw [results_cell_tmp rfl]
 go_simp
theorem reduce_noshape (p q:Option Addr) (c d n N:Nat) (a red:Int) (w:World)
  (H30:Hid (∀ W,Below w.heap.size w W→Calls Tryz.prog 30 #[.agg #[.slice p n c,.slice q N d],.int .i64 a,.int .i64 red] W fun e w'=>Below W.heap.size W w'∧e=.returned (.int .i64 0)))
  (H33:Hid (∀ W lb,Below w.heap.size w W→Calls Tryz.prog 33 #[.agg #[.slice p n c,.slice q N d],.int .i64 a,.int .i64 red,.int .i64 1,.func (.func 31) #[] lb] W fun e w'=>Below W.heap.size W w'∧e=.returned (.tuple #[.agg #[.slice none 0 0,.slice none 0 0],.int .i64 60]))) :
  Calls Tryz.prog 13 #[.agg #[.slice p n c,.slice q N d],.int .i64 a,.int .i64 red] w (ArrPost w 60 [] []):=by
 obtain ⟨A,HA⟩:∃ A,Hid (w.heap.size=A):=⟨_,Lib.hid rfl⟩
 obtain ⟨W0,HW0⟩:∃ W0,Hid (((w.alloc (.cells #[.slice p n c,.slice q N d] 31)).alloc (.cells #[.int .i64 a] 3)).alloc (.cells #[.slice none 0 0,.slice none 0 0] 31)=W0):=⟨_,Lib.hid rfl⟩
 have HB0:Hid (Below w.heap.size w W0):=Lib.hid (by rw [← HW0.out];exact (((Below.refl _ w).alloc (Nat.le_refl _) _).alloc (by simp) _).alloc (by simp;omega) _)
 have HS0:Hid (W0.heap.size=A+1+1+1):=Lib.hid (by rw [← HW0.out,← HA.out];simp)
 have HA0:Hid (W0.heap[A]?=some (.cells #[.slice p n c,.slice q N d] 31 (0,0))):=Lib.hid (by
  rw [← HW0.out,← HA.out]
  simp only [World.alloc,Array.getElem?_push,Array.size_push]
  repeat' (first|rw [if_pos (by omega)] | rw [if_neg (by omega)] | rfl))
 have HA1:Hid (W0.heap[A+1]?=some (.cells #[.int .i64 a] 3 (0,0))):=Lib.hid (by
  rw [← HW0.out,← HA.out]
  simp only [World.alloc,Array.getElem?_push,Array.size_push]
  repeat' (first|rw [if_pos (by omega)] | rw [if_neg (by omega)] | rfl))
 have HA2:Hid (W0.heap[A+1+1]?=some (.cells #[.slice none 0 0,.slice none 0 0] 31 (0,0))):=Lib.hid (by
  rw [← HW0.out,← HA.out]
  simp only [World.alloc,Array.getElem?_push,Array.size_push]
  repeat' (first|rw [if_pos (by omega)] | rw [if_neg (by omega)] | rfl))
 have HBX:Hid (∀ W',Below W0.heap.size W0 W'→Below w.heap.size w W'∧W'.heap[A]?=some (.cells #[.slice p n c,.slice q N d] 31 (0,0))∧W'.heap[A+1]?=some (.cells #[.int .i64 a] 3 (0,0))∧W'.heap[A+1+1]?=some (.cells #[.slice none 0 0,.slice none 0 0] 31 (0,0))):=Lib.hid (fun W' hb =>
  ⟨HB0.out.trans (hb.mono HB0.out.size),(hb.block _ (by rw [HS0.out];omega)).trans HA0.out,(hb.block _ (by rw [HS0.out];omega)).trans HA1.out,(hb.block _ (by rw [HS0.out];omega)).trans HA2.out⟩)
 have HLE:Hid (w.heap.size≤A):=Lib.hid (by rw [HA.out];exact Nat.le_refl _)
 obtain ⟨-,x0,x1,-⟩:=HBX.out W0 (Below.refl _ _)
 have a0:W0.cell? ⟨A,0,none⟩=some (.slice p n c):=ceh x0 0
 have a1:W0.cell? ⟨A,1,none⟩=some (.slice q N d):=ceh x0 1
 have a2:W0.cell? ⟨A+1,0,none⟩=some (.int .i64 a):=ceh x1 0
 clear x0 x1
 replace H30:=Lib.hid (H30.out W0 HB0.out)
 go_enter Tryz.func13,Tryz.ntmps13
 go_wp2_with fail
 rw [HW0.out,HA.out]
 go_wp2_with fail
 refine H30.out.mono ?_
 rintro e w1 ⟨hb1,rfl⟩
 have HB1:=Lib.hid hb1
 obtain ⟨-,x0,x1,-⟩:=HBX.out w1 hb1
 have c0:w1.cell? ⟨A,0,none⟩=some (.slice p n c):=ceh x0 0
 have c1:w1.cell? ⟨A,1,none⟩=some (.slice q N d):=ceh x0 1
 have c2:w1.cell? ⟨A+1,0,none⟩=some (.int .i64 a):=ceh x1 0
 clear hb1 x0 x1 a0 a1 a2
 go_wp2_with fail
 refine (H33.out w1 _ (HBX.out w1 HB1.out).1).mono ?_
 rintro e w2 ⟨hb2,rfl⟩
 have HBw2b:Hid (Below W0.heap.size W0 w2):=Lib.hid (HB1.out.trans (hb2.mono HB1.out.size))
 obtain ⟨w3,HW3⟩:∃ w3,Hid (w2.alloc (.cells #[.slice none 0 0,.slice none 0 0] 31)=w3):=⟨_,Lib.hid rfl⟩
 have HBw3:Hid (Below W0.heap.size W0 w3):=Lib.hid (by rw [← HW3.out];exact HBw2b.out.alloc HBw2b.out.size _)
 clear hb2 c0 c1 c2
 obtain ⟨hbw,-,-,y1⟩:=HBX.out w3 HBw3.out
 have r0:w3.cell? ⟨A+1+1,0,none⟩=some (.slice none 0 0):=ceh y1 0
 have r1:w3.cell? ⟨A+1+1,1,none⟩=some (.slice none 0 0):=ceh y1 1
 have z0:w3.frozen? ⟨A+1+1,0,none⟩=false:=foh y1 0
 have z1:w3.frozen? ⟨A+1+1,1,none⟩=false:=foh y1 1
 have hE1:=heap_set w3 (A+1+1) 0 (.slice none 0 0) _ _ y1
 have hE2:=heap_set _ (A+1+1) 1 (.slice none 0 0) _ _ hE1
 obtain ⟨W7,HW7⟩:∃ W7,Hid ((w3.setCell ⟨A+1+1,0,none⟩ (.slice none 0 0)).setCell ⟨A+1+1,1,none⟩ (.slice none 0 0)=W7):=⟨_,Lib.hid rfl⟩
 rw [HW7.out] at hE2
 have k0:W7.cell? ⟨A+1+1,0,none⟩=some (.slice none 0 0):=ceh hE2 0
 have k1:W7.cell? ⟨A+1+1,1,none⟩=some (.slice none 0 0):=ceh hE2 1
 have HFIN:Hid (ArrPost w 60 [] [] (.returned (.tuple #[.agg #[.slice none 0 0,.slice none 0 0],.int .i64 60])) W7):=Lib.hid (arr_no (by
  have:=HLE.out
  rw [← HW7.out]
  exact (hbw.setCell (p:=⟨A+1+1,0,none⟩) (by show w.heap.size≤A+1+1;omega) _).setCell (p:=⟨A+1+1,1,none⟩) (by show w.heap.size≤A+1+1;omega) _))
 clear hE1 hE2 y1 hbw
 rw [← HW3.out] at r0 r1 z0 z1
 go_wp2_with fail
 rw [HW3.out]
 (try simp only [Exit.inBlock,Exit.then])
 rw [HW7.out]
 refine bodyPost_ret (v:=.tuple #[.agg #[.slice none 0 0,.slice none 0 0],.int .i64 60]) ?_ rfl HFIN.out
 rw [results_cell_tmp rfl]
 go_simp
theorem reduce_yes (p q:Option Addr) (c d n N a M:Nat) (red:Int) (s t:List Nat) (val:Nat→List UInt8) (w:World)
  (hs:Hid (s.length=n)) (ht:Hid (s.set a 1=t)) (ha:a<n) (hn:n≤4)
  (H30:Hid (∀ W,Below w.heap.size w W→Calls Tryz.prog 30 #[.agg #[.slice p n c,.slice q N d],.int .i64 (a:Int),.int .i64 red] W fun e w'=>Below W.heap.size W w'∧e=.returned (.int .i64 0)))
  (H33:Hid (∀ W AB AX,Below w.heap.size w W→W.heap[AB]?=some (.cells #[.slice p n c,.slice q N d] 31 (0,0))→W.heap[AX]?=some (.cells #[.int .i64 (a:Int)] 3 (0,0))→Calls Tryz.prog 33 #[.agg #[.slice p n c,.slice q N d],.int .i64 (a:Int),.int .i64 red,.int .i64 1,.func (.func 31) #[] #[.pointer (some ⟨AB,0,none⟩),.pointer (some ⟨AX,0,none⟩)]] W (AlongPost W n M t val))) :
  Calls Tryz.prog 13 #[.agg #[.slice p n c,.slice q N d],.int .i64 (a:Int),.int .i64 red] w (ArrPost w 0 (s.eraseIdx a) ((List.range M).map val)):=by
 have hai:(a:Int)<(n:Int):=by omega
 have hni:(n:Int)≤4:=by omega
 have HAN:=Lib.hid ha
 obtain ⟨A,HA⟩:∃ A,Hid (w.heap.size=A):=⟨_,Lib.hid rfl⟩
 obtain ⟨W0,HW0⟩:∃ W0,Hid (((w.alloc (.cells #[.slice p n c,.slice q N d] 31)).alloc (.cells #[.int .i64 (a:Int)] 3)).alloc (.cells #[.slice none 0 0,.slice none 0 0] 31)=W0):=⟨_,Lib.hid rfl⟩
 have HB0:Hid (Below w.heap.size w W0):=Lib.hid (by rw [← HW0.out];exact (((Below.refl _ w).alloc (Nat.le_refl _) _).alloc (by simp) _).alloc (by simp;omega) _)
 have HS0:Hid (W0.heap.size=A+1+1+1):=Lib.hid (by rw [← HW0.out,← HA.out];simp)
 have HA0:Hid (W0.heap[A]?=some (.cells #[.slice p n c,.slice q N d] 31 (0,0))):=Lib.hid (by
  rw [← HW0.out,← HA.out]
  simp only [World.alloc,Array.getElem?_push,Array.size_push]
  repeat' (first|rw [if_pos (by omega)] | rw [if_neg (by omega)] | rfl))
 have HA1:Hid (W0.heap[A+1]?=some (.cells #[.int .i64 (a:Int)] 3 (0,0))):=Lib.hid (by
  rw [← HW0.out,← HA.out]
  simp only [World.alloc,Array.getElem?_push,Array.size_push]
  repeat' (first|rw [if_pos (by omega)] | rw [if_neg (by omega)] | rfl))
 have HA2:Hid (W0.heap[A+1+1]?=some (.cells #[.slice none 0 0,.slice none 0 0] 31 (0,0))):=Lib.hid (by
  rw [← HW0.out,← HA.out]
  simp only [World.alloc,Array.getElem?_push,Array.size_push]
  repeat' (first|rw [if_pos (by omega)] | rw [if_neg (by omega)] | rfl))
 have HBX:Hid (∀ W',Below W0.heap.size W0 W'→Below w.heap.size w W'∧W'.heap[A]?=some (.cells #[.slice p n c,.slice q N d] 31 (0,0))∧W'.heap[A+1]?=some (.cells #[.int .i64 (a:Int)] 3 (0,0))∧W'.heap[A+1+1]?=some (.cells #[.slice none 0 0,.slice none 0 0] 31 (0,0))):=Lib.hid (fun W' hb =>
  ⟨HB0.out.trans (hb.mono HB0.out.size),(hb.block _ (by rw [HS0.out];omega)).trans HA0.out,(hb.block _ (by rw [HS0.out];omega)).trans HA1.out,(hb.block _ (by rw [HS0.out];omega)).trans HA2.out⟩)
 have HLE:Hid (w.heap.size≤A):=Lib.hid (by rw [HA.out];exact Nat.le_refl _)
 obtain ⟨-,x0,x1,-⟩:=HBX.out W0 (Below.refl _ _)
 have a0:W0.cell? ⟨A,0,none⟩=some (.slice p n c):=ceh x0 0
 have a1:W0.cell? ⟨A,1,none⟩=some (.slice q N d):=ceh x0 1
 have a2:W0.cell? ⟨A+1,0,none⟩=some (.int .i64 (a:Int)):=ceh x1 0
 clear x0 x1
 replace H30:=Lib.hid (H30.out W0 HB0.out)
 clear ha
 go_enter Tryz.func13,Tryz.ntmps13
 go_wp2_with fail
 rw [HW0.out,HA.out]
 go_wp2_with fail
 refine H30.out.mono ?_
 rintro e w1 ⟨hb1,rfl⟩
 have HB1:=Lib.hid hb1
 obtain ⟨-,x0,x1,-⟩:=HBX.out w1 hb1
 have c0:w1.cell? ⟨A,0,none⟩=some (.slice p n c):=ceh x0 0
 have c1:w1.cell? ⟨A,1,none⟩=some (.slice q N d):=ceh x0 1
 have c2:w1.cell? ⟨A+1,0,none⟩=some (.int .i64 (a:Int)):=ceh x1 0
 clear hb1 x0 x1 a0 a1 a2
 replace H33:=Lib.hid (H33.out w1 A (A+1) (HBX.out w1 HB1.out).1 (HBX.out w1 HB1.out).2.1 (HBX.out w1 HB1.out).2.2.1)
 go_wp2_with fail
 refine H33.out.mono ?_
 rintro e w2 ⟨hb2,b,dd,V,rfl,hr1,hdd,hbge,hcur,hr2,hVge⟩
 obtain ⟨B,HBB⟩:∃ B,Hid (B=w2.heap.size):=⟨_,Lib.hid rfl⟩
 obtain ⟨W3,HW3⟩:∃ W,Hid (w2.alloc (.cells #[.slice (some ⟨b,0,none⟩) n dd,.slice (some ⟨V,0,none⟩) M M] 31)=W):=⟨_,Lib.hid rfl⟩
 have hb23:Below w2.heap.size w2 W3:=by rw [← HW3.out];exact (Below.refl _ _).alloc (Nat.le_refl _) _
 have HB2:Hid (Below W0.heap.size W0 w2):=Lib.hid (HB1.out.trans (hb2.mono HB1.out.size))
 have HB3:Hid (Below W0.heap.size W0 W3):=Lib.hid (HB2.out.trans (hb23.mono HB2.out.size))
 have HX3:Hid (W3.heap[B]?=some (.cells #[.slice (some ⟨b,0,none⟩) n dd,.slice (some ⟨V,0,none⟩) M M] 31 (0,0))):=Lib.hid (by rw [← HW3.out,HBB.out];exact World.alloc_heap_new _ _)
 obtain ⟨cur,hcur⟩:=hcur
 have HNE:Hid (w1.heap.size≤b∧b<B∧w1.heap.size≤V∧W0.heap.size≤w1.heap.size∧W0.heap.size≤B):=Lib.hid ⟨hbge,by rw [HBB.out];exact (Array.getElem?_eq_some_iff.1 hcur).1,hVge,HB1.out.size,by rw [HBB.out];exact HB2.out.size⟩
 have HRS:Hid (RdS w2 (some ⟨V,0,none⟩) ((List.range M).map val)):=Lib.hid hr2
 have HDEL:Hid (Calls Tryz.prog 34 #[.slice (some ⟨b,0,none⟩) n dd,.int .i64 (a:Int),.int .i64 ((a:Int)+1)] W3 fun e w'=>e=.returned (.slice (some ⟨b,0,none⟩) (n-1) dd)∧W3.grownBy w' (some b)∧RdN w' (some ⟨b,0,none⟩) (s.eraseIdx a)):=Lib.hid (by
  have h:=delete_any b dd n a t W3 (by rw [← ht.out,List.length_set,hs.out]) hdd.1 hdd.2 HAN.out (hr1.below hb23) ⟨cur,(hb23.block b (Array.getElem?_eq_some_iff.1 hcur).1).trans hcur⟩
  rw [← ht.out,List.eraseIdx_set_eq] at h
  exact h)
 have HVNE:Hid (0<((List.range M).map val).length→V≠b∧V<B):=Lib.hid (fun h0=>by
  obtain ⟨b',off',x,e1,-,h3,-⟩:=hr1.at (k:=0) (by rw [← ht.out,List.length_set,hs.out];have:=HAN.out;omega)
  cases e1
  obtain ⟨bq,oq,x2,e2,h5,h4,-⟩:=hr2.at (k:=0) h0
  cases e2
  refine ⟨fun e=>?_,by rw [HBB.out];exact h5⟩
  subst e
  rw [h3] at h4
  cases h4)
 have H23:=Lib.hid hb23
 clear hb2 hb23 hr1 hr2 hdd hbge hVge hcur c0 c1 c2
 have d0:W3.cell? ⟨B,0,none⟩=some (.slice (some ⟨b,0,none⟩) n dd):=ceh HX3.out 0
 have d2:W3.cell? ⟨A+1,0,none⟩=some (.int .i64 (a:Int)):=ceh (HBX.out W3 HB3.out).2.2.1 0
 rw [← HW3.out] at d0 d2
 rw [HBB.out] at d0
 go_wp2_with fail
 rw [HW3.out,← HBB.out]
 refine HDEL.out.mono ?_
 rintro e w4 ⟨rfl,hg4,hr4⟩
 clear d0 d2
 have hX4:w4.heap[B]?=some (.cells #[.slice (some ⟨b,0,none⟩) n dd,.slice (some ⟨V,0,none⟩) M M] 31 (0,0)):=(hg4.block B (Array.getElem?_eq_some_iff.1 HX3.out).1 (by intro e;injection e with e;have:=HNE.out;omega)).trans HX3.out
 have hA4:w4.heap[A+1+1]?=some (.cells #[.slice none 0 0,.slice none 0 0] 31 (0,0)):=(hg4.block (A+1+1) (by have:=HB3.out.size;have:=HS0.out;omega) (by intro e;injection e with e;have:=HNE.out;have:=HS0.out;omega)).trans (HBX.out W3 HB3.out).2.2.2
 have e0:w4.cell? ⟨B,0,none⟩=some (.slice (some ⟨b,0,none⟩) n dd):=ceh hX4 0
 have e1:w4.frozen? ⟨B,0,none⟩=false:=foh hX4 0
 obtain ⟨W5,HW5⟩:∃ W5,Hid (w4.setCell ⟨B,0,none⟩ (.slice (some ⟨b,0,none⟩) (n-1) dd)=W5):=⟨_,Lib.hid rfl⟩
 have hX5:=heap_set w4 B 0 (.slice (some ⟨b,0,none⟩) (n-1) dd) _ _ hX4
 rw [HW5.out] at hX5
 have hg45:w4.grownBy W5 (some B):=by rw [← HW5.out];exact gb_set _ _ _ _
 have hA5:W5.heap[A+1+1]?=some (.cells #[.slice none 0 0,.slice none 0 0] 31 (0,0)):=(hg45.block (A+1+1) (Array.getElem?_eq_some_iff.1 hA4).1 (by intro e;injection e with e;have:=HNE.out;have:=HS0.out;omega)).trans hA4
 have f0:W5.cell? ⟨B,0,none⟩=some (.slice (some ⟨b,0,none⟩) (n-1) dd):=ceh hX5 0
 have f1:W5.cell? ⟨B,1,none⟩=some (.slice (some ⟨V,0,none⟩) M M):=ceh hX5 1
 have r0:W5.cell? ⟨A+1+1,0,none⟩=some (.slice none 0 0):=ceh hA5 0
 have r1:W5.cell? ⟨A+1+1,1,none⟩=some (.slice none 0 0):=ceh hA5 1
 have z0:W5.frozen? ⟨A+1+1,0,none⟩=false:=foh hA5 0
 have z1:W5.frozen? ⟨A+1+1,1,none⟩=false:=foh hA5 1
 have hE1:=heap_set W5 (A+1+1) 0 (.slice (some ⟨b,0,none⟩) (n-1) dd) _ _ hA5
 have hE2:=heap_set _ (A+1+1) 1 (.slice (some ⟨V,0,none⟩) M M) _ _ hE1
 obtain ⟨W7,HW7⟩:∃ W7,Hid ((W5.setCell ⟨A+1+1,0,none⟩ (.slice (some ⟨b,0,none⟩) (n-1) dd)).setCell ⟨A+1+1,1,none⟩ (.slice (some ⟨V,0,none⟩) M M)=W7):=⟨_,Lib.hid rfl⟩
 rw [HW7.out] at hE2
 have k0:W7.cell? ⟨A+1+1,0,none⟩=some (.slice (some ⟨b,0,none⟩) (n-1) dd):=ceh hE2 0
 have k1:W7.cell? ⟨A+1+1,1,none⟩=some (.slice (some ⟨V,0,none⟩) M M):=ceh hE2 1
 have HFIN:Hid (ArrPost w 0 (s.eraseIdx a) ((List.range M).map val) (.returned (.tuple #[.agg #[.slice (some ⟨b,0,none⟩) (n-1) dd,.slice (some ⟨V,0,none⟩) M M],.int .i64 0])) W7):=Lib.hid (by
  have hg57:W5.grownBy W7 (some (A+1+1)):=by rw [← HW7.out];exact (gb_set _ _ _ _).trans (gb_set _ _ _ _)
  have o1:=HS0.out
  have o2:=HNE.out
  have o3:=HLE.out
  have o4:=HB0.out.size
  have hw3:=(HBX.out W3 HB3.out).1
  have B4:=hw3.grown hg4 hw3.size (fun k e=>by cases e;omega)
  have B5:=B4.grown hg45 B4.size (fun k e=>by cases e;omega)
  have B7:=B5.grown hg57 B5.size (fun k e=>by cases e;omega)
  refine ⟨B7,some ⟨b,0,none⟩,some ⟨V,0,none⟩,n-1,dd,M,M,rfl,?_,by simp,?_,?_⟩
  ·rw [List.length_eraseIdx,hs.out,if_pos HAN.out]
  ·exact (hr4.gb hg45 (fun b' off e _=>by cases e;omega)).gb hg57 (fun b' off e _=>by cases e;omega)
  ·have h3:=HRS.out.below H23.out
   have h4:RdS w4 (some ⟨V,0,none⟩) ((List.range M).map val):=rds_gb h3 hg4 (fun b' off e hl=>by cases e;exact (HVNE.out hl).1)
   exact rds_gb (rds_gb h4 hg45 (fun b' off e hl=>by cases e;have:=(HVNE.out hl).2;omega)) hg57 (fun b' off e _=>by cases e;omega))
 clear hE1 hE2 hX4 hX5 hA4 hA5 hg4 hg45 hr4
 rw [← HW5.out] at f0 f1 r0 r1 z0 z1
 go_wp2_with fail
 (try simp only [Exit.inBlock,Exit.then])
 rw [HW5.out,HW7.out]
 refine bodyPost_ret (v:=.tuple #[.agg #[.slice (some ⟨b,0,none⟩) (n-1) dd,.slice (some ⟨V,0,none⟩) M M],.int .i64 0]) ?_ rfl HFIN.out
 rw [results_cell_tmp rfl]
 go_simp
end Go.Proofs.YtlcpcpmlfegejaaGreatDoor.Arr
