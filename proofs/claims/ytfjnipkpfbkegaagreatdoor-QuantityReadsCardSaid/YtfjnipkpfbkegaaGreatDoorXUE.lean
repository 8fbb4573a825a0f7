/- Contracts. -/
import Derived.Test.YtfjnipkpfbkegaaGreatDoorGC
set_option maxHeartbeats 3200000
set_option maxRecDepth 100000
namespace Go.Proofs.YtfjnipkpfbkegaaGreatDoor
open Go.RowKit Big
open Go.Lib
theorem ypR (b1:Bool) (x1:Option Addr) (n1 c1:Nat) (y1:Option Addr) (m1 d1:Nat) (b2:Bool) (x2:Option Addr) (n2 c2:Nat) (y2:Option Addr) (m2 d2:Nat) (p0 p1 p2 p3 p4 p5 p6:Int) (qf qo:Rat) (sf so:ByteArray) (f1 f2 res:Bool) (u:Value) (code:Int) (w:World) (yP:Hid (res=(f1&&uP [p0,p1,p2,p3,p4,p5,p6]&&f2)))
  (hu:Hid ((res=true∧u=.agg #[.string sf,.string so,.int .i64 p0,.int .i64 p1,.int .i64 p2,.int .i64 p3,.int .i64 p4,.int .i64 p5,.int .i64 p6]∧code=0)∨(res=false∧u=.agg #[.string ⟨#[]⟩,.string ⟨#[]⟩,.int .i64 0,.int .i64 0,.int .i64 0,.int .i64 0,.int .i64 0,.int .i64 0,.int .i64 0]∧code=4)))
  (hx1:zH w (.agg #[.bool b1,.slice x1 n1 c1,.slice y1 m1 d1]) qf) (hx2:zH w (.agg #[.bool b2,.slice x2 n2 c2,.slice y2 m2 d2]) qo)
  (h74:Hid (∀ W v,zH W v qf→Calls Tryz.prog 36 #[v] W fun e w'=>e=.returned (.tuple #[.string sf,.bool f1])∧Below W.heap.size W w')) (h75:Hid (∀ W v,zH W v qo→Calls Tryz.prog 36 #[v] W fun e w'=>e=.returned (.tuple #[.string so,.bool f2])∧Below W.heap.size W w')) :
  Calls Tryz.prog 17 #[.agg #[.bool b1,.slice x1 n1 c1,.slice y1 m1 d1,.bool b2,.slice x2 n2 c2,.slice y2 m2 d2,.int .i64 p0,.int .i64 p1,.int .i64 p2,.int .i64 p3,.int .i64 p4,.int .i64 p5,.int .i64 p6]] w fun e w'=>e=.returned (.tuple #[u,.int .i64 code])∧Below w.heap.size w w':=by
 have hx:=yA (yot p0 p1 p2 p3 p4 p5 p6)
 have HA:Hid (Below w.heap.size w ((w.alloc (.cells #[.bool b1,.slice x1 n1 c1,.slice y1 m1 d1,.bool b2,.slice x2 n2 c2,.slice y2 m2 d2,.int .i64 p0,.int .i64 p1,.int .i64 p2,.int .i64 p3,.int .i64 p4,.int .i64 p5,.int .i64 p6] 52)).alloc (.cells #[.string ⟨#[]⟩,.string ⟨#[]⟩,.int .i64 0,.int .i64 0,.int .i64 0,.int .i64 0,.int .i64 0,.int .i64 0,.int .i64 0] 24))):=yA ((zJ w _).trans ((zJ _ _).mono (by simp)))
 have X1:=yA (hx1.below HA.out)
 have X2:=yA (hx2.below HA.out)
 have KP:Hid (Keep w ((w.alloc (.cells #[.bool b1,.slice x1 n1 c1,.slice y1 m1 d1,.bool b2,.slice x2 n2 c2,.slice y2 m2 d2,.int .i64 p0,.int .i64 p1,.int .i64 p2,.int .i64 p3,.int .i64 p4,.int .i64 p5,.int .i64 p6] 52)).alloc (.cells #[.string ⟨#[]⟩,.string ⟨#[]⟩,.int .i64 0,.int .i64 0,.int .i64 0,.int .i64 0,.int .i64 0,.int .i64 0,.int .i64 0] 24)) [(w.heap.size,#[.bool b1,.slice x1 n1 c1,.slice y1 m1 d1,.bool b2,.slice x2 n2 c2,.slice y2 m2 d2,.int .i64 p0,.int .i64 p1,.int .i64 p2,.int .i64 p3,.int .i64 p4,.int .i64 p5,.int .i64 p6],52)]∧ResU (w.heap.size+1) w ((w.alloc (.cells #[.bool b1,.slice x1 n1 c1,.slice y1 m1 d1,.bool b2,.slice x2 n2 c2,.slice y2 m2 d2,.int .i64 p0,.int .i64 p1,.int .i64 p2,.int .i64 p3,.int .i64 p4,.int .i64 p5,.int .i64 p6] 52)).alloc (.cells #[.string ⟨#[]⟩,.string ⟨#[]⟩,.int .i64 0,.int .i64 0,.int .i64 0,.int .i64 0,.int .i64 0,.int .i64 0,.int .i64 0] 24))):=yA (by
  have h0:=((Keep.nil w).more #[.bool b1,.slice x1 n1 c1,.slice y1 m1 d1,.bool b2,.slice x2 n2 c2,.slice y2 m2 d2,.int .i64 p0,.int .i64 p1,.int .i64 p2,.int .i64 p3,.int .i64 p4,.int .i64 p5,.int .i64 p6] 52).more #[.string ⟨#[]⟩,.string ⟨#[]⟩,.int .i64 0,.int .i64 0,.int .i64 0,.int .i64 0,.int .i64 0,.int .i64 0,.int .i64 0] 24
  rw [show (w.alloc (.cells #[.bool b1,.slice x1 n1 c1,.slice y1 m1 d1,.bool b2,.slice x2 n2 c2,.slice y2 m2 d2,.int .i64 p0,.int .i64 p1,.int .i64 p2,.int .i64 p3,.int .i64 p4,.int .i64 p5,.int .i64 p6] 52)).heap.size=w.heap.size+1 from by simp] at h0
  exact ⟨h0.sub (fun x hx=>List.mem_cons_of_mem _ hx),by simp,h0.below,_,_,_,_,_,_,_,_,_,h0.one _ (List.mem_cons_self ..)⟩)
 have h13:=KP.out.1.one _ (List.mem_cons_self ..)
 have j0:=yB h13 0
 have j1:=yB h13 1
 have j2:=yB h13 2
 have j3:=yB h13 3
 have j4:=yB h13 4
 have j5:=yB h13 5
 have j6:=yB h13 6
 have j7:=yB h13 7
 have j8:=yB h13 8
 have j9:=yB h13 9
 have j10:=yB h13 10
 have j11:=yB h13 11
 have j12:=yB h13 12
 clear h13 hx1 hx2
 go_enter Tryz.func17,Tryz.ntmps17
 go_wp2_with fail
 refine (h74.out _ _ X1.out).mono ?_
 rintro e w1 ⟨rfl,hb⟩
 have K1:=yA (And.intro (KP.out.1.next hb) (KP.out.2.next hb))
 have X3:=yA (X2.out.below hb)
 clear hb KP X1 X2 j0 j1 j2 j3 j4 j5 j6 j7 j8 j9 j10 j11 j12
 have h13:=K1.out.1.one _ (List.mem_cons_self ..)
 have j0:=yB h13 0
 have j1:=yB h13 1
 have j2:=yB h13 2
 have j3:=yB h13 3
 have j4:=yB h13 4
 have j5:=yB h13 5
 have j6:=yB h13 6
 have j7:=yB h13 7
 have j8:=yB h13 8
 have j9:=yB h13 9
 have j10:=yB h13 10
 have j11:=yB h13 11
 have j12:=yB h13 12
 clear h13
 go_wp2_with fail
 refine (h75.out _ _ X3.out).mono ?_
 rintro e w2 ⟨rfl,hb⟩
 have K2:=yA (And.intro (K1.out.1.next hb) (K1.out.2.next hb))
 clear hb K1 X3 j0 j1 j2 j3 j4 j5 j6 j7 j8 j9 j10 j11 j12
 have h13:=K2.out.1.one _ (List.mem_cons_self ..)
 have j0:=yB h13 0
 have j1:=yB h13 1
 have j2:=yB h13 2
 have j3:=yB h13 3
 have j4:=yB h13 4
 have j5:=yB h13 5
 have j6:=yB h13 6
 have j7:=yB h13 7
 have j8:=yB h13 8
 have j9:=yB h13 9
 have j10:=yB h13 10
 have j11:=yB h13 11
 have j12:=yB h13 12
 clear h13
 go_wp2_with fail
 go_loop [5,24] (fun okv iv=>∃ k:Nat,k≤7∧iv=.int .i64 (k:Int)∧okv=.bool (f1&&uP ([p0,p1,p2,p3,p4,p5,p6].take k))) (fun _ iv=>7-(intOf iv).toNat)
 case atStart=>exact ⟨0,by omega,rfl,by simp [uP]⟩
 case round =>
  obtain ⟨k,hk,rfl,rfl⟩:=hrel
  by_cases hlt:k<7
  ·have hlt':(k:Int)<7:=by omega
   have hix:=hx.out k hlt
   have hn:Hid ((f1&&uP ([p0,p1,p2,p3,p4,p5,p6].take (k+1)))=(f1&&uP ([p0,p1,p2,p3,p4,p5,p6].take k)&&zP ([p0,p1,p2,p3,p4,p5,p6].getD k 0))):=yA (by rw [yo1 (by simpa using hlt),Bool.and_assoc])
   have hk1:Hid (k+1≤7):=yA hlt
   generalize [p0,p1,p2,p3,p4,p5,p6].getD k 0=pk at hix hn
   generalize (f1&&uP ([p0,p1,p2,p3,p4,p5,p6].take k))=fl at hn ⊢
   clear hlt hk
   cases fl with
   | true =>
    go_wp2_with fail
    refine (yfo pk _).mono ?_
    rintro e w3 ⟨rfl,rfl⟩
    go_wp2_with fail
    go_round
    case rel=>exact ⟨k+1,hk1.out,by go_num,by rw [hn.out];rfl⟩
    case measure=>(simp [intOf])<;>omega
   | false =>
    go_wp2_with fail
    go_round
    case rel=>exact ⟨k+1,hk1.out,by go_num,by rw [hn.out];rfl⟩
    case measure=>(simp [intOf])<;>omega
  ·obtain rfl:k=7:=by omega
   have hfl:Hid (res=((f1&&uP ([p0,p1,p2,p3,p4,p5,p6].take 7))&&f2)):=yA (by rw [yP.out];rfl)
   generalize (f1&&uP ([p0,p1,p2,p3,p4,p5,p6].take 7))=fl at hfl ⊢
   obtain ⟨z0,z1,z2,z3,z4,z5,z6,z7,z8,hz⟩:=K2.out.2.z
   have k0:=yB hz 0
   have e0:=vB hz 0
   have k1:=yB hz 1
   have e1:=vB hz 1
   have k2:=yB hz 2
   have e2:=vB hz 2
   have k3:=yB hz 3
   have e3:=vB hz 3
   have k4:=yB hz 4
   have e4:=vB hz 4
   have k5:=yB hz 5
   have e5:=vB hz 5
   have k6:=yB hz 6
   have e6:=vB hz 6
   have k7:=yB hz 7
   have e7:=vB hz 7
   have k8:=yB hz 8
   have e8:=vB hz 8
   have HF:=yA (fun a0 a1 a2 a3 a4 a5 a6 a7 a8=>K2.out.2.put9 (Nat.le_succ _) a0 a1 a2 a3 a4 a5 a6 a7 a8)
   clear hlt hk hz
   cases fl with
   | false =>
    obtain ⟨rfl,rfl⟩:u=.agg #[.string ⟨#[]⟩,.string ⟨#[]⟩,.int .i64 0,.int .i64 0,.int .i64 0,.int .i64 0,.int .i64 0,.int .i64 0,.int .i64 0]∧code=4:=by
     have h:=hfl.out
     rcases hu.out with ⟨h1,h2,h3⟩|⟨h1,h2,h3⟩
     ·first|exact ⟨h2,h3⟩|(rw [h] at h1;cases h1)
     ·first|(rw [h] at h1;cases h1;done)|exact ⟨h2,h3⟩
    go_wp2_with fail
    refine bodyPost_ret (v:=.tuple #[.agg #[.string ⟨#[]⟩,.string ⟨#[]⟩,.int .i64 0,.int .i64 0,.int .i64 0,.int .i64 0,.int .i64 0,.int .i64 0,.int .i64 0],.int .i64 4]) (by simp [results,Tryz.results17,go_sem,k0,k1,k2,k3,k4,k5,k6,k7,k8]) rfl ?_
    exact ⟨rfl,HF.out _ _ _ _ _ _ _ _ _⟩
   | true =>
    cases f2 with
    | false =>
     obtain ⟨rfl,rfl⟩:u=.agg #[.string ⟨#[]⟩,.string ⟨#[]⟩,.int .i64 0,.int .i64 0,.int .i64 0,.int .i64 0,.int .i64 0,.int .i64 0,.int .i64 0]∧code=4:=by
      have h:=hfl.out
      rcases hu.out with ⟨h1,h2,h3⟩|⟨h1,h2,h3⟩
      ·first|exact ⟨h2,h3⟩|(rw [h] at h1;cases h1)
      ·first|(rw [h] at h1;cases h1;done)|exact ⟨h2,h3⟩
     go_wp2_with fail
     refine bodyPost_ret (v:=.tuple #[.agg #[.string ⟨#[]⟩,.string ⟨#[]⟩,.int .i64 0,.int .i64 0,.int .i64 0,.int .i64 0,.int .i64 0,.int .i64 0,.int .i64 0],.int .i64 4]) (by simp [results,Tryz.results17,go_sem,k0,k1,k2,k3,k4,k5,k6,k7,k8]) rfl ?_
     exact ⟨rfl,HF.out _ _ _ _ _ _ _ _ _⟩
    | true =>
     obtain ⟨rfl,rfl⟩:u=.agg #[.string sf,.string so,.int .i64 p0,.int .i64 p1,.int .i64 p2,.int .i64 p3,.int .i64 p4,.int .i64 p5,.int .i64 p6]∧code=0:=by
      have h:=hfl.out
      rcases hu.out with ⟨h1,h2,h3⟩|⟨h1,h2,h3⟩
      ·first|exact ⟨h2,h3⟩|(rw [h] at h1;cases h1)
      ·first|(rw [h] at h1;cases h1;done)|exact ⟨h2,h3⟩
     go_wp2_with fail
     refine bodyPost_ret (v:=.tuple #[.agg #[.string sf,.string so,.int .i64 p0,.int .i64 p1,.int .i64 p2,.int .i64 p3,.int .i64 p4,.int .i64 p5,.int .i64 p6],.int .i64 0]) (by simp [results,Tryz.results17,go_sem,k0,k1,k2,k3,k4,k5,k6,k7,k8]) rfl ?_
     exact ⟨rfl,HF.out _ _ _ _ _ _ _ _ _⟩
theorem yhx {g:Nat} {W:World} {z0 z1 z2:Value} (hz:W.heap[g]?=some (.cells #[z0,z1,z2] 44 (0,0))) (n0:vC z0) (n1:vC z1) (n2:vC z2) {v:Value} {q:Rat} (hx:zH W v q) (k:Nat) (a:Value):zH (W.setCell ⟨g,k,none⟩ a) v q:=by
 obtain ⟨u,v,rfl,hu,hv⟩:=hx
 exact ⟨u,v,rfl,ydt hz n0 n1 n2 hu k a,hv.imp (fun h=>ydt hz n0 n1 n2 h k a) fun h=>⟨ydt hz n0 n1 n2 h.1 k a,h.2⟩⟩
theorem ybF {g:Nat} {W:World} {z0 z1 z2:Value} (hz:W.heap[g]?=some (.cells #[z0,z1,z2] 44 (0,0))) (n0:vC z0) (n1:vC z1) (n2:vC z2) {v:Value} {r:Rat} (hx:zH W v r) (s:Bool) (p:Option Addr) (n c:Nat) (q:Option Addr) (m d:Nat) :
  zH (((W.setCell ⟨g,0,none⟩ (.bool s)).setCell ⟨g,1,none⟩ (.slice p n c)).setCell ⟨g,2,none⟩ (.slice q m d)) v r:=by
 have h1:=yhx hz n0 n1 n2 hx 0 (.bool s)
 have e1:=yK g 0 _ 44 (.bool s) hz
 have h2:=yhx e1 (zE _) n1 n2 h1 1 (.slice p n c)
 have e2:=yK g 1 _ 44 (.slice p n c) e1
 exact yhx e2 (zE _) (yN _ _ _) n2 h2 2 (.slice q m d)
section
structure Rz (B g:Nat) (c1 c2:Array Value) (w0 W:World):Prop where
 keep:Keep w0 W [(g,c2,44),(B,c1,44)]
 res:∃ z0 z1 z2,W.heap[B+1]?=some (.cells #[z0,z1,z2] 44 (0,0))∧vC z0∧vC z1∧vC z2
 lt:B+2≤g
section
variable {B g : Nat} {c1 c2 : Array Value} {w0 W W' : World}
theorem Rz.next (h:Rz B g c1 c2 w0 W) (hb:Below W.heap.size W W'):Rz B g c1 c2 w0 W':=by
 obtain ⟨z0,z1,z2,hz,hn⟩:=h.res
 exact ⟨h.keep.next hb,⟨z0,z1,z2,(hb.block _ (Array.getElem?_eq_some_iff.1 hz).1).trans hz,hn⟩,h.lt⟩
theorem Rz.drew (h:Rz B g c1 c2 w0 W):Rz B g c1 c2 w0 W.drew:=⟨h.keep.drew,h.res,h.lt⟩
theorem Rz.slots (h:Rz B g c1 c2 w0 W):∃ z0 z1 z2,W.cell? ⟨B+1,0,none⟩=some z0∧W.cell? ⟨B+1,1,none⟩=some z1∧W.cell? ⟨B+1,2,none⟩=some z2∧W.frozen? ⟨B+1,0,none⟩=false∧W.frozen? ⟨B+1,1,none⟩=false∧W.frozen? ⟨B+1,2,none⟩=false:=by
 obtain ⟨z0,z1,z2,hz,-⟩:=h.res
 exact ⟨z0,z1,z2,yB hz 0,yB hz 1,yB hz 2,vB hz 0,vB hz 1,vB hz 2⟩
theorem Rz.put (h:Rz B g c1 c2 w0 W) (hB:w0.heap.size≤B) {z0 z1 z2:Value} (hc:c2=#[z0,z1,z2]) (a b c:Value):Rz B g c1 #[a,b,c] w0 (((W.setCell ⟨g,0,none⟩ a).setCell ⟨g,1,none⟩ b).setCell ⟨g,2,none⟩ c):=by
 subst hc
 obtain ⟨y0,y1,y2,hz,hn⟩:=h.res
 have hlt:=h.lt
 have hne:B+1≠g:=by omega
 refine ⟨h.keep.put3 (by omega) (fun x hx=>?_) a b c,⟨y0,y1,y2,?_,hn⟩,hlt⟩
 ·simp only [List.mem_cons,List.not_mem_nil,or_false] at hx
  subst hx
  show B≠g
  omega
 ·exact ((Below.heap_setCell _ _ _ _ hne).trans (Below.heap_setCell _ _ _ _ hne)).trans ((Below.heap_setCell _ _ _ _ hne).trans hz)
theorem Rz.sto (h:Rz B g c1 c2 w0 W) (hB:w0.heap.size≤B) (a:Bool) (p q:Option Addr) (n k m d:Nat):Rz B g c1 c2 w0 (((W.setCell ⟨B+1,0,none⟩ (.bool a)).setCell ⟨B+1,1,none⟩ (.slice p n k)).setCell ⟨B+1,2,none⟩ (.slice q m d)):=by
 obtain ⟨z0,z1,z2,hz,k0,k1,k2⟩:=h.res
 have hlt:=h.lt
 have one:∀ {W:World} (j:Nat) (v:Value),Keep w0 W [(g,c2,44),(B,c1,44)]→Keep w0 (W.setCell ⟨B+1,j,none⟩ v) [(g,c2,44),(B,c1,44)]:=fun j v hk=>⟨hk.below.setCell (by show _≤B+1;omega) _,fun x hx=>by
  refine (Below.heap_setCell _ _ _ _ ?_).trans (hk.all x hx)
  simp only [List.mem_cons,List.not_mem_nil,or_false] at hx
  rcases hx with rfl|rfl
  ·show g≠B+1;omega
  ·show B≠B+1;omega⟩
 exact ⟨one 2 _ (one 1 _ (one 0 _ h.keep)),⟨_,_,_,yK _ 2 _ 44 _ (yK _ 1 _ 44 _ (yK _ 0 _ 44 _ hz)),zE _,yN _ _ _,yN _ _ _⟩,h.lt⟩
theorem Rz.fin (h:Rz B g c1 c2 w0 W) (hB:w0.heap.size≤B) {sb:Bool} {p:Option Addr} {n c:Nat} {p2:Option Addr} {n2 c2':Nat} {q:Rat} (hq:zH W (.agg #[.bool sb,.slice p n c,.slice p2 n2 c2']) q) :
  vD q w0 (.returned (.agg #[.bool sb,.slice p n c,.slice p2 n2 c2'])) (((W.setCell ⟨B+1,0,none⟩ (.bool sb)).setCell ⟨B+1,1,none⟩ (.slice p n c)).setCell ⟨B+1,2,none⟩ (.slice p2 n2 c2')):=by
 obtain ⟨z0,z1,z2,hz,k0,k1,k2⟩:=h.res
 exact ⟨_,rfl,ybF hz k0 k1 k2 hq sb p n c p2 n2 c2',((h.keep.below.setCell (by show _≤B+1;omega) _).setCell (by show _≤B+1;omega) _).setCell (by show _≤B+1;omega) _⟩
end
theorem ynu (x:Value) (q:Rat) (N:Nat) (hN:N≤12) (w:World) (hx:zH w x q) (h81:Hid (∀ W,Calls Tryz.prog 37 #[.int .i64 1] W (yaM 1 W)))
  (h47:Hid (∀ W u v i,i≤12→zH W u (q^i)→zH W v q→Calls Tryz.prog 38 #[u,v] W (yaM (q^(i+1)) W))):Calls Tryz.prog 39 #[x,.int .i64 ((N:Int))] w (vD (q^N) w):=by
 obtain ⟨x0,n0,c0,y0,m0,d0,rfl,-,-⟩:=hx.slices
 generalize decide (q.num<0)=s at hx ⊢
 have HX:=yA hx
 have hNi:(N:Int)≤12:=by omega
 have hNj:(0:Int)≤N:=by omega
 clear hx 
 have hA:=yA ((zJ w (.cells #[.bool s,.slice x0 n0 c0,.slice y0 m0 d0] 44)).trans ((zJ (w.alloc (.cells #[.bool s,.slice x0 n0 c0,.slice y0 m0 d0] 44)) (.cells #[.bool false,.slice none 0 0,.slice none 0 0] 44)).mono (by simp)))
 have K0:Hid (Keep w ((w.alloc (.cells #[.bool s,.slice x0 n0 c0,.slice y0 m0 d0] 44)).alloc (.cells #[.bool false,.slice none 0 0,.slice none 0 0] 44)) [(w.heap.size+1,#[.bool false,.slice none 0 0,.slice none 0 0],44),(w.heap.size,#[.bool s,.slice x0 n0 c0,.slice y0 m0 d0],44)]):=yA (by
  have h0:=((Keep.nil w).more #[.bool s,.slice x0 n0 c0,.slice y0 m0 d0] 44).more #[.bool false,.slice none 0 0,.slice none 0 0] 44
  rw [show (w.alloc (.cells #[.bool s,.slice x0 n0 c0,.slice y0 m0 d0] 44)).heap.size=w.heap.size+1 from by simp] at h0
  exact h0)
 go_enter Tryz.func39,Tryz.ntmps39
 go_wp2_with fail
 refine (h81.out _).mono ?_
 rintro e w1 ⟨b1,x1,n1,c1,y1,m1,d1,rfl,hq,hb⟩
 have hz1:=yA (((K0.out.next hb).more #[.bool b1,.slice x1 n1 c1,.slice y1 m1 d1] 44))
 have hst:Hid (∃ (i:Nat) (b:Bool) (p:Option Addr) (n c:Nat) (p2:Option Addr) (n2 c2:Nat),i≤N∧Value.int .i64 0=.int .i64 (i:Int)∧Hid (Rz w.heap.size w1.heap.size #[.bool s,.slice x0 n0 c0,.slice y0 m0 d0] #[.bool b,.slice p n c,.slice p2 n2 c2] w (w1.alloc (.cells #[.bool b1,.slice x1 n1 c1,.slice y1 m1 d1] 44))∧zH (w1.alloc (.cells #[.bool b1,.slice x1 n1 c1,.slice y1 m1 d1] 44)) (.agg #[.bool s,.slice x0 n0 c0,.slice y0 m0 d0]) q∧zH (w1.alloc (.cells #[.bool b1,.slice x1 n1 c1,.slice y1 m1 d1] 44)) (.agg #[.bool b,.slice p n c,.slice p2 n2 c2]) (q^i))):=yA
  ⟨0,b1,x1,n1,c1,y1,m1,d1,Nat.zero_le _,rfl,yA ⟨⟨hz1.out.sub (fun z hz=>by
   simp only [List.mem_cons,List.not_mem_nil,or_false] at hz
   rcases hz with rfl|rfl
   ·exact List.mem_cons_self ..
   ·exact List.mem_cons_of_mem _ (List.mem_cons_of_mem _ (List.mem_cons_self ..))),⟨_,_,_,hz1.out.one _ (List.mem_cons_of_mem _ (List.mem_cons_self ..)),zE _,yN _ _ _,yN _ _ _⟩,by have:=hb.size;simp at this;omega⟩,
   ((HX.out.below hA.out).below hb).below (zJ _ _),by rw [Rat.pow_zero];exact hq.below (zJ _ _)⟩⟩
 clear hz1 hq hb K0 hA HX
 go_wp2_with fail
 go_loopw [11] (fun iv wr=>∃ (i:Nat) (b:Bool) (p:Option Addr) (n c:Nat) (p2:Option Addr) (n2 c2:Nat),i≤N∧iv=.int .i64 (i:Int)∧Hid (Rz w.heap.size w1.heap.size #[.bool s,.slice x0 n0 c0,.slice y0 m0 d0] #[.bool b,.slice p n c,.slice p2 n2 c2] w wr∧zH wr (.agg #[.bool s,.slice x0 n0 c0,.slice y0 m0 d0]) q∧zH wr (.agg #[.bool b,.slice p n c,.slice p2 n2 c2]) (q^i))) (fun iv _=>N-(intOf iv).toNat)
 case atStart=>exact hst.out
 case round =>
  obtain ⟨i,b,p,n,c,p2,n2,c2,hi,rfl,yI⟩:=hrel
  have hx5:=yI.out.1.keep.one _ (List.mem_cons_self ..)
  have g0:=yB hx5 0
  have g1:=yB hx5 1
  have g2:=yB hx5 2
  have e0:=vB hx5 0
  have e1:=vB hx5 1
  have e2:=vB hx5 2
  have hx6:=yI.out.1.keep.one _ (List.mem_cons_of_mem _ (List.mem_cons_self ..))
  have a0:=yB hx6 0
  have a1:=yB hx6 1
  have a2:=yB hx6 2
  clear hx5 hx6
  by_cases hlt:i<N
  ·have hlt':(i:Int)<N:=by omega
   have hc:=yA (h47.out wr _ _ i (by omega) yI.out.2.2 yI.out.2.1)
   clear hlt
   go_wp2_with fail
   refine hc.out.mono ?_
   rintro e w2 ⟨b2,x2,n2',c2',y2,m2,d2,rfl,hq,hb⟩
   have hx5:=(yI.out.1.next hb).keep.one _ (List.mem_cons_self ..)
   have g0:=yB hx5 0
   have g1:=yB hx5 1
   have g2:=yB hx5 2
   have e0:=vB hx5 0
   have e1:=vB hx5 1
   have e2:=vB hx5 2
   have hn:=yA (And.intro ((yI.out.1.next hb).put (Nat.le_refl _) rfl (.bool b2) (.slice x2 n2' c2') (.slice y2 m2 d2)) (And.intro (ybF hx5 (zE _) (yN _ _ _) (yN _ _ _) (yI.out.2.1.below hb) b2 x2 n2' c2' y2 m2 d2) (ybF hx5 (zE _) (yN _ _ _) (yN _ _ _) hq b2 x2 n2' c2' y2 m2 d2)))
   clear hx5 hq hb hc
   go_wp2_with fail
   go_roundw
   case rel=>exact ⟨i+1,b2,x2,n2',c2',y2,m2,d2,by omega,by go_num,hn⟩
   case measure=>simp [intOf];omega
  ·obtain rfl:i=N:=by omega
   obtain ⟨z0,z1,z2,k0,k1,k2,f0,f1,f2⟩:=yI.out.1.slots
   have yE:=yA (yI.out.1.fin (Nat.le_refl _) yI.out.2.2)
   go_wp2_with fail
   refine bodyPost_ret (v:=.agg #[.bool b,.slice p n c,.slice p2 n2 c2]) ?h1 rfl ?h2
   case h1=>simp [results,Tryz.results39,go_sem,k0,k1,k2]
   exact yE.out
theorem ynv (x:Value) (q:Rat) (N:Nat) (hN:N≤12) (hN1:1≤N) (w:World) (hx:zH w x q) (h81:Hid (∀ W,Calls Tryz.prog 37 #[.int .i64 1] W (yaM 1 W)))
  (h47:Hid (∀ W u v i,i≤12→zH W u (q^i)→zH W v q→Calls Tryz.prog 38 #[u,v] W (yaM (q^(i+1)) W))) (h45:Hid (∀ W u v,zH W u 1→zH W v (q^N)→Calls Tryz.prog 73 #[u,v] W (yaM (1/q^N) W))):Calls Tryz.prog 39 #[x,.int .i64 (-(N:Int))] w (vD ((1:Rat)/q^N) w):=by
 obtain ⟨x0,n0,c0,y0,m0,d0,rfl,-,-⟩:=hx.slices
 generalize decide (q.num<0)=s at hx ⊢
 have HX:=yA hx
 have hNi:(N:Int)≤12:=by omega
 have hNj:(1:Int)≤N:=by omega
 clear hx hN1
 have hA:=yA ((zJ w (.cells #[.bool s,.slice x0 n0 c0,.slice y0 m0 d0] 44)).trans ((zJ (w.alloc (.cells #[.bool s,.slice x0 n0 c0,.slice y0 m0 d0] 44)) (.cells #[.bool false,.slice none 0 0,.slice none 0 0] 44)).mono (by simp)))
 have K0:Hid (Keep w ((w.alloc (.cells #[.bool s,.slice x0 n0 c0,.slice y0 m0 d0] 44)).alloc (.cells #[.bool false,.slice none 0 0,.slice none 0 0] 44)) [(w.heap.size+1,#[.bool false,.slice none 0 0,.slice none 0 0],44),(w.heap.size,#[.bool s,.slice x0 n0 c0,.slice y0 m0 d0],44)]):=yA (by
  have h0:=((Keep.nil w).more #[.bool s,.slice x0 n0 c0,.slice y0 m0 d0] 44).more #[.bool false,.slice none 0 0,.slice none 0 0] 44
  rw [show (w.alloc (.cells #[.bool s,.slice x0 n0 c0,.slice y0 m0 d0] 44)).heap.size=w.heap.size+1 from by simp] at h0
  exact h0)
 go_enter Tryz.func39,Tryz.ntmps39
 go_wp2_with fail
 refine (h81.out _).mono ?_
 rintro e w1 ⟨b1,x1,n1,c1,y1,m1,d1,rfl,hq,hb⟩
 have hz1:=yA (((K0.out.next hb).more #[.bool b1,.slice x1 n1 c1,.slice y1 m1 d1] 44))
 have hst:Hid (∃ (i:Nat) (b:Bool) (p:Option Addr) (n c:Nat) (p2:Option Addr) (n2 c2:Nat),i≤N∧Value.int .i64 0=.int .i64 (i:Int)∧Hid (Rz w.heap.size w1.heap.size #[.bool s,.slice x0 n0 c0,.slice y0 m0 d0] #[.bool b,.slice p n c,.slice p2 n2 c2] w (w1.alloc (.cells #[.bool b1,.slice x1 n1 c1,.slice y1 m1 d1] 44))∧zH (w1.alloc (.cells #[.bool b1,.slice x1 n1 c1,.slice y1 m1 d1] 44)) (.agg #[.bool s,.slice x0 n0 c0,.slice y0 m0 d0]) q∧zH (w1.alloc (.cells #[.bool b1,.slice x1 n1 c1,.slice y1 m1 d1] 44)) (.agg #[.bool b,.slice p n c,.slice p2 n2 c2]) (q^i))):=yA
  ⟨0,b1,x1,n1,c1,y1,m1,d1,Nat.zero_le _,rfl,yA ⟨⟨hz1.out.sub (fun z hz=>by
   simp only [List.mem_cons,List.not_mem_nil,or_false] at hz
   rcases hz with rfl|rfl
   ·exact List.mem_cons_self ..
   ·exact List.mem_cons_of_mem _ (List.mem_cons_of_mem _ (List.mem_cons_self ..))),⟨_,_,_,hz1.out.one _ (List.mem_cons_of_mem _ (List.mem_cons_self ..)),zE _,yN _ _ _,yN _ _ _⟩,by have:=hb.size;simp at this;omega⟩,
   ((HX.out.below hA.out).below hb).below (zJ _ _),by rw [Rat.pow_zero];exact hq.below (zJ _ _)⟩⟩
 clear hz1 hq hb K0 hA HX
 go_wp2_with fail
 go_loopw [11] (fun iv wr=>∃ (i:Nat) (b:Bool) (p:Option Addr) (n c:Nat) (p2:Option Addr) (n2 c2:Nat),i≤N∧iv=.int .i64 (i:Int)∧Hid (Rz w.heap.size w1.heap.size #[.bool s,.slice x0 n0 c0,.slice y0 m0 d0] #[.bool b,.slice p n c,.slice p2 n2 c2] w wr∧zH wr (.agg #[.bool s,.slice x0 n0 c0,.slice y0 m0 d0]) q∧zH wr (.agg #[.bool b,.slice p n c,.slice p2 n2 c2]) (q^i))) (fun iv _=>N-(intOf iv).toNat)
 case atStart=>exact hst.out
 case round =>
  obtain ⟨i,b,p,n,c,p2,n2,c2,hi,rfl,yI⟩:=hrel
  have hx5:=yI.out.1.keep.one _ (List.mem_cons_self ..)
  have g0:=yB hx5 0
  have g1:=yB hx5 1
  have g2:=yB hx5 2
  have e0:=vB hx5 0
  have e1:=vB hx5 1
  have e2:=vB hx5 2
  have hx6:=yI.out.1.keep.one _ (List.mem_cons_of_mem _ (List.mem_cons_self ..))
  have a0:=yB hx6 0
  have a1:=yB hx6 1
  have a2:=yB hx6 2
  clear hx5 hx6
  by_cases hlt:i<N
  ·have hlt':(i:Int)<N:=by omega
   have hc:=yA (h47.out wr _ _ i (by omega) yI.out.2.2 yI.out.2.1)
   clear hlt
   go_wp2_with fail
   refine hc.out.mono ?_
   rintro e w2 ⟨b2,x2,n2',c2',y2,m2,d2,rfl,hq,hb⟩
   have hx5:=(yI.out.1.next hb).keep.one _ (List.mem_cons_self ..)
   have g0:=yB hx5 0
   have g1:=yB hx5 1
   have g2:=yB hx5 2
   have e0:=vB hx5 0
   have e1:=vB hx5 1
   have e2:=vB hx5 2
   have hn:=yA (And.intro ((yI.out.1.next hb).put (Nat.le_refl _) rfl (.bool b2) (.slice x2 n2' c2') (.slice y2 m2 d2)) (And.intro (ybF hx5 (zE _) (yN _ _ _) (yN _ _ _) (yI.out.2.1.below hb) b2 x2 n2' c2' y2 m2 d2) (ybF hx5 (zE _) (yN _ _ _) (yN _ _ _) hq b2 x2 n2' c2' y2 m2 d2)))
   clear hx5 hq hb hc
   go_wp2_with fail
   go_roundw
   case rel=>exact ⟨i+1,b2,x2,n2',c2',y2,m2,d2,by omega,by go_num,hn⟩
   case measure=>simp [intOf];omega
  ·obtain rfl:i=N:=by omega
   have KB:Hid (∀ W,Rz w.heap.size w1.heap.size #[.bool s,.slice x0 n0 c0,.slice y0 m0 d0] #[.bool b,.slice p n c,.slice p2 n2 c2] w W→zH W (.agg #[.bool b,.slice p n c,.slice p2 n2 c2]) (q^i)→((fun w'=>Rz w.heap.size w1.heap.size #[.bool s,.slice x0 n0 c0,.slice y0 m0 d0] #[.bool b,.slice p n c,.slice p2 n2 c2] w w'∧zH w' (.agg #[.bool b,.slice p n c,.slice p2 n2 c2]) (q^i)∧w'.cell? ⟨w1.heap.size,0,none⟩=some (.bool b)∧w'.cell? ⟨w1.heap.size,1,none⟩=some (.slice p n c)∧w'.cell? ⟨w1.heap.size,2,none⟩=some (.slice p2 n2 c2)) W)):=yA fun W h hq=>⟨h,hq,yB (h.keep.one _ (List.mem_cons_self ..)) 0,yB (h.keep.one _ (List.mem_cons_self ..)) 1,yB (h.keep.one _ (List.mem_cons_self ..)) 2⟩
   go_wp2_with fail
   refine wp_region_held_drew (S:=fun w'=>Rz w.heap.size w1.heap.size #[.bool s,.slice x0 n0 c0,.slice y0 m0 d0] #[.bool b,.slice p n c,.slice p2 n2 c2] w w'∧zH w' (.agg #[.bool b,.slice p n c,.slice p2 n2 c2]) (q^i)∧w'.cell? ⟨w1.heap.size,0,none⟩=some (.bool b)∧w'.cell? ⟨w1.heap.size,1,none⟩=some (.slice p n c)∧w'.cell? ⟨w1.heap.size,2,none⟩=some (.slice p2 n2 c2)) (by kernel_rfl) (KB.out _ yI.out.1.drew (yI.out.2.2.below (Below.refl _ _).drew)) (fun hHeld=>?_)
   refine wpAnyH_take (i:=1) (v:=(.agg #[.bool b,.slice p n c,.slice p2 n2 c2])) rfl (by kernel_rfl) (by kernel_rfl) (by kernel_rfl) (fun _ _ _ h=>h) (Or.inl ⟨by rfl,by intro W hSw;clear hHeld;go_split_ands;go_simp⟩) (by assumption) ?_
   simp only [List.getElem_toArray,List.getElem_cons_zero,List.getElem_cons_succ,Act.put,List.setIfInBounds_toArray,List.set_cons_zero,List.set_cons_succ]
   refine wpAnyH_ready (rs:=[0]) (by kernel_rfl) (by simp) ?_
   refine AllReadyH.cons (i:=0) rfl (fun K hK=>?_) AllReadyH.nil
   go_simp
   refine (h81.out _).mono ?_
   rintro e v1 ⟨u0,u1,u2,u3,u4,u5,u6,rfl,hz1,hb1⟩
   go_simp
   refine hK.out _ _ (KB.out _ (hHeld.1.next hb1) (hHeld.2.1.below hb1)) (fun hHeld=>?_)
   clear hK K
   refine wpAnyH_ready (rs:=[2]) (by kernel_rfl) (by simp) ?_
   refine AllReadyH.cons (i:=2) rfl (fun K hK=>?_) AllReadyH.nil
   go_simp
   refine (h45.out _ _ _ hz1 hHeld.2.1).mono ?_
   rintro e v2 ⟨r0,r1,r2,r3,r4,r5,r6,rfl,hz2,hb2⟩
   go_simp
   refine hK.out _ _ (KB.out _ (hHeld.1.next hb2) (hHeld.2.1.below hb2)) (fun hHeld=>?_)
   clear hK K
   refine wpAnyH_ready (rs:=[3]) (by kernel_rfl) (by simp) ?_
   refine AllReadyH.cons (i:=3) rfl (fun K hK=>?_) AllReadyH.nil
   obtain ⟨z0,z1,z2,k0,k1,k2,f0,f1,f2⟩:=hHeld.1.slots
   have yE:=yA (hHeld.1.fin (Nat.le_refl _) hz2)
   go_simp
   obtain ⟨y0,y1,y2,hy,n0',n1',n2'⟩:=hHeld.1.res
   refine hK.out _ _ (KB.out _ (hHeld.1.sto (Nat.le_refl _) r0 r1 r4 r2 r3 r5 r6) (ybF hy n0' n1' n2' hHeld.2.1 r0 r1 r2 r3 r4 r5 r6)) (fun hHeld=>?_)
   clear hK K
   refine wpAnyH_done (by kernel_rfl) ?_ _
   go_wp2_with fail
   refine bodyPost_ret (v:=.agg #[.bool r0,.slice r1 r2 r3,.slice r4 r5 r6]) ?h1 rfl ?h2
   case h1=>simp [results,Tryz.results39,go_sem,k0,k1,k2]
   exact yE.out
end
end Go.Proofs.YtfjnipkpfbkegaaGreatDoor
