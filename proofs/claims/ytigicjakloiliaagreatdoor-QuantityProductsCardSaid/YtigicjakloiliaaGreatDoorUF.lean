/- The document's give: a unit out of its parts. -/
import Derived.Test.YtigicjakloiliaaGreatDoorUA
import Derived.Test.YtigicjakloiliaaGreatDoorPart12
set_option maxHeartbeats 3200000
set_option maxRecDepth 100000
namespace Go.Proofs.YtigicjakloiliaaGreatDoor
open Go.RowKit Big
open Go.Lib
theorem give_any (b1:Bool) (x1:Option Addr) (n1 c1:Nat) (y1:Option Addr) (m1 d1:Nat) (b2:Bool) (x2:Option Addr) (n2 c2:Nat) (y2:Option Addr) (m2 d2:Nat) (p0 p1 p2 p3 p4 p5 p6:Int) (qf qo:Rat) (sf so:ByteArray) (f1 f2 res:Bool) (u:Value) (code:Int) (w:World) (hres:Hid (res=(f1&&inR [p0,p1,p2,p3,p4,p5,p6]&&f2)))
  (hu:Hid ((res=true∧u=.agg #[.string sf,.string so,.int .i64 p0,.int .i64 p1,.int .i64 p2,.int .i64 p3,.int .i64 p4,.int .i64 p5,.int .i64 p6]∧code=0)∨(res=false∧u=.agg #[.string ⟨#[]⟩,.string ⟨#[]⟩,.int .i64 0,.int .i64 0,.int .i64 0,.int .i64 0,.int .i64 0,.int .i64 0,.int .i64 0]∧code=4)))
  (hx1:QAt w (.agg #[.bool b1,.slice x1 n1 c1,.slice y1 m1 d1]) qf) (hx2:QAt w (.agg #[.bool b2,.slice x2 n2 c2,.slice y2 m2 d2]) qo)
  (h74:Hid (∀ W v,QAt W v qf→Calls Tryz.prog 74 #[v] W fun e w'=>e=.returned (.tuple #[.string sf,.bool f1])∧Below W.heap.size W w')) (h75:Hid (∀ W v,QAt W v qo→Calls Tryz.prog 74 #[v] W fun e w'=>e=.returned (.tuple #[.string so,.bool f2])∧Below W.heap.size W w')) :
  Calls Tryz.prog 110 #[.agg #[.bool b1,.slice x1 n1 c1,.slice y1 m1 d1,.bool b2,.slice x2 n2 c2,.slice y2 m2 d2,.int .i64 p0,.int .i64 p1,.int .i64 p2,.int .i64 p3,.int .i64 p4,.int .i64 p5,.int .i64 p6]] w fun e w'=>e=.returned (.tuple #[u,.int .i64 code])∧Below w.heap.size w w':=by
 have hx:=hiD (index7 p0 p1 p2 p3 p4 p5 p6)
 have HA:Hid (Below w.heap.size w ((w.alloc (.cells #[.bool b1,.slice x1 n1 c1,.slice y1 m1 d1,.bool b2,.slice x2 n2 c2,.slice y2 m2 d2,.int .i64 p0,.int .i64 p1,.int .i64 p2,.int .i64 p3,.int .i64 p4,.int .i64 p5,.int .i64 p6] 118)).alloc (.cells #[.string ⟨#[]⟩,.string ⟨#[]⟩,.int .i64 0,.int .i64 0,.int .i64 0,.int .i64 0,.int .i64 0,.int .i64 0,.int .i64 0] 53))):=hiD ((below_alloc9 w _).trans ((below_alloc9 _ _).mono (by simp)))
 have X1:=hiD (hx1.below HA.out)
 have X2:=hiD (hx2.below HA.out)
 have KP:Hid (Keep w ((w.alloc (.cells #[.bool b1,.slice x1 n1 c1,.slice y1 m1 d1,.bool b2,.slice x2 n2 c2,.slice y2 m2 d2,.int .i64 p0,.int .i64 p1,.int .i64 p2,.int .i64 p3,.int .i64 p4,.int .i64 p5,.int .i64 p6] 118)).alloc (.cells #[.string ⟨#[]⟩,.string ⟨#[]⟩,.int .i64 0,.int .i64 0,.int .i64 0,.int .i64 0,.int .i64 0,.int .i64 0,.int .i64 0] 53)) [(w.heap.size,#[.bool b1,.slice x1 n1 c1,.slice y1 m1 d1,.bool b2,.slice x2 n2 c2,.slice y2 m2 d2,.int .i64 p0,.int .i64 p1,.int .i64 p2,.int .i64 p3,.int .i64 p4,.int .i64 p5,.int .i64 p6],118)]∧ResU (w.heap.size+1) w ((w.alloc (.cells #[.bool b1,.slice x1 n1 c1,.slice y1 m1 d1,.bool b2,.slice x2 n2 c2,.slice y2 m2 d2,.int .i64 p0,.int .i64 p1,.int .i64 p2,.int .i64 p3,.int .i64 p4,.int .i64 p5,.int .i64 p6] 118)).alloc (.cells #[.string ⟨#[]⟩,.string ⟨#[]⟩,.int .i64 0,.int .i64 0,.int .i64 0,.int .i64 0,.int .i64 0,.int .i64 0,.int .i64 0] 53))):=hiD (by
  have h0:=((Keep.nil w).more #[.bool b1,.slice x1 n1 c1,.slice y1 m1 d1,.bool b2,.slice x2 n2 c2,.slice y2 m2 d2,.int .i64 p0,.int .i64 p1,.int .i64 p2,.int .i64 p3,.int .i64 p4,.int .i64 p5,.int .i64 p6] 118).more #[.string ⟨#[]⟩,.string ⟨#[]⟩,.int .i64 0,.int .i64 0,.int .i64 0,.int .i64 0,.int .i64 0,.int .i64 0,.int .i64 0] 53
  rw [show (w.alloc (.cells #[.bool b1,.slice x1 n1 c1,.slice y1 m1 d1,.bool b2,.slice x2 n2 c2,.slice y2 m2 d2,.int .i64 p0,.int .i64 p1,.int .i64 p2,.int .i64 p3,.int .i64 p4,.int .i64 p5,.int .i64 p6] 118)).heap.size=w.heap.size+1 from by simp] at h0
  exact ⟨h0.sub (fun x hx=>List.mem_cons_of_mem _ hx),by simp,h0.below,_,_,_,_,_,_,_,_,_,h0.one _ (List.mem_cons_self ..)⟩)
 have h13:=KP.out.1.one _ (List.mem_cons_self ..)
 have j0:=ceh h13 0
 have j1:=ceh h13 1
 have j2:=ceh h13 2
 have j3:=ceh h13 3
 have j4:=ceh h13 4
 have j5:=ceh h13 5
 have j6:=ceh h13 6
 have j7:=ceh h13 7
 have j8:=ceh h13 8
 have j9:=ceh h13 9
 have j10:=ceh h13 10
 have j11:=ceh h13 11
 have j12:=ceh h13 12
 clear h13 hx1 hx2
 go_enter Tryz.func110,Tryz.ntmps110
 go_wp2_with fail
 refine (h74.out _ _ X1.out).mono ?_
 rintro e w1 ⟨rfl,hb⟩
 have K1:=hiD (And.intro (KP.out.1.next hb) (KP.out.2.next hb))
 have X3:=hiD (X2.out.below hb)
 clear hb KP X1 X2 j0 j1 j2 j3 j4 j5 j6 j7 j8 j9 j10 j11 j12
 have h13:=K1.out.1.one _ (List.mem_cons_self ..)
 have j0:=ceh h13 0
 have j1:=ceh h13 1
 have j2:=ceh h13 2
 have j3:=ceh h13 3
 have j4:=ceh h13 4
 have j5:=ceh h13 5
 have j6:=ceh h13 6
 have j7:=ceh h13 7
 have j8:=ceh h13 8
 have j9:=ceh h13 9
 have j10:=ceh h13 10
 have j11:=ceh h13 11
 have j12:=ceh h13 12
 clear h13
 go_wp2_with fail
 refine (h75.out _ _ X3.out).mono ?_
 rintro e w2 ⟨rfl,hb⟩
 have K2:=hiD (And.intro (K1.out.1.next hb) (K1.out.2.next hb))
 clear hb K1 X3 j0 j1 j2 j3 j4 j5 j6 j7 j8 j9 j10 j11 j12
 have h13:=K2.out.1.one _ (List.mem_cons_self ..)
 have j0:=ceh h13 0
 have j1:=ceh h13 1
 have j2:=ceh h13 2
 have j3:=ceh h13 3
 have j4:=ceh h13 4
 have j5:=ceh h13 5
 have j6:=ceh h13 6
 have j7:=ceh h13 7
 have j8:=ceh h13 8
 have j9:=ceh h13 9
 have j10:=ceh h13 10
 have j11:=ceh h13 11
 have j12:=ceh h13 12
 clear h13
 go_wp2_with fail
 go_loop [5,24] (fun okv iv=>∃ k:Nat,k≤7∧iv=.int .i64 (k:Int)∧okv=.bool (f1&&inR ([p0,p1,p2,p3,p4,p5,p6].take k))) (fun _ iv=>7-(intOf iv).toNat)
 case atStart=>exact ⟨0,by omega,rfl,by simp [inR]⟩
 case round =>
  obtain ⟨k,hk,rfl,rfl⟩:=hrel
  by_cases hlt:k<7
  ·have hlt':(k:Int)<7:=by omega
   have hix:=hx.out k hlt
   have hn:Hid ((f1&&inR ([p0,p1,p2,p3,p4,p5,p6].take (k+1)))=(f1&&inR ([p0,p1,p2,p3,p4,p5,p6].take k)&&isPow ([p0,p1,p2,p3,p4,p5,p6].getD k 0))):=hiD (by rw [inR_take (by simpa using hlt),Bool.and_assoc])
   have hk1:Hid (k+1≤7):=hiD hlt
   generalize [p0,p1,p2,p3,p4,p5,p6].getD k 0=pk at hix hn
   generalize (f1&&inR ([p0,p1,p2,p3,p4,p5,p6].take k))=fl at hn ⊢
   clear hlt hk
   cases fl with
   | true =>
    go_wp2_with fail
    refine (within_any pk _).mono ?_
    rintro e w3 ⟨rfl,rfl⟩
    go_wp2_with fail
    go_round
    case rel=>exact ⟨k+1,hk1.out,by go_num,by rw [hn.out];rfl⟩
    case measure=>(simp [intOf])<;>omega
   | false =>
    go_wp2_with fail
    go_round
    case rel=>exact ⟨k+1,hk1.out,by go_num,by rw [hn.out];rfl⟩
    case measure=>(simp [intOf])<;>omega
  ·obtain rfl:k=7:=by omega
   have hfl:Hid (res=((f1&&inR ([p0,p1,p2,p3,p4,p5,p6].take 7))&&f2)):=hiD (by rw [hres.out];rfl)
   generalize (f1&&inR ([p0,p1,p2,p3,p4,p5,p6].take 7))=fl at hfl ⊢
   obtain ⟨z0,z1,z2,z3,z4,z5,z6,z7,z8,hz⟩:=K2.out.2.z
   have k0:=ceh hz 0
   have e0:=foh hz 0
   have k1:=ceh hz 1
   have e1:=foh hz 1
   have k2:=ceh hz 2
   have e2:=foh hz 2
   have k3:=ceh hz 3
   have e3:=foh hz 3
   have k4:=ceh hz 4
   have e4:=foh hz 4
   have k5:=ceh hz 5
   have e5:=foh hz 5
   have k6:=ceh hz 6
   have e6:=foh hz 6
   have k7:=ceh hz 7
   have e7:=foh hz 7
   have k8:=ceh hz 8
   have e8:=foh hz 8
   have HF:=hiD (fun a0 a1 a2 a3 a4 a5 a6 a7 a8=>K2.out.2.put9 (Nat.le_succ _) a0 a1 a2 a3 a4 a5 a6 a7 a8)
   clear hlt hk hz
   cases fl with
   | false =>
    obtain ⟨rfl,rfl⟩:u=.agg #[.string ⟨#[]⟩,.string ⟨#[]⟩,.int .i64 0,.int .i64 0,.int .i64 0,.int .i64 0,.int .i64 0,.int .i64 0,.int .i64 0]∧code=4:=by
     have h:=hfl.out
     rcases hu.out with ⟨h1,h2,h3⟩|⟨h1,h2,h3⟩
     ·first|exact ⟨h2,h3⟩|(rw [h] at h1;cases h1)
     ·first|(rw [h] at h1;cases h1;done)|exact ⟨h2,h3⟩
    go_wp2_with fail
    refine bodyPost_ret (v:=.tuple #[.agg #[.string ⟨#[]⟩,.string ⟨#[]⟩,.int .i64 0,.int .i64 0,.int .i64 0,.int .i64 0,.int .i64 0,.int .i64 0,.int .i64 0],.int .i64 4]) (by simp [results,Tryz.results110,go_sem,k0,k1,k2,k3,k4,k5,k6,k7,k8]) rfl ?_
    exact ⟨rfl,HF.out _ _ _ _ _ _ _ _ _⟩
   | true =>
    cases f2 with
    | false =>
     obtain ⟨rfl,rfl⟩:u=.agg #[.string ⟨#[]⟩,.string ⟨#[]⟩,.int .i64 0,.int .i64 0,.int .i64 0,.int .i64 0,.int .i64 0,.int .i64 0,.int .i64 0]∧code=4:=by
      have h:=hfl.out
      rcases hu.out with ⟨h1,h2,h3⟩|⟨h1,h2,h3⟩
      ·first|exact ⟨h2,h3⟩|(rw [h] at h1;cases h1)
      ·first|(rw [h] at h1;cases h1;done)|exact ⟨h2,h3⟩
     go_wp2_with fail
     refine bodyPost_ret (v:=.tuple #[.agg #[.string ⟨#[]⟩,.string ⟨#[]⟩,.int .i64 0,.int .i64 0,.int .i64 0,.int .i64 0,.int .i64 0,.int .i64 0,.int .i64 0],.int .i64 4]) (by simp [results,Tryz.results110,go_sem,k0,k1,k2,k3,k4,k5,k6,k7,k8]) rfl ?_
     exact ⟨rfl,HF.out _ _ _ _ _ _ _ _ _⟩
    | true =>
     obtain ⟨rfl,rfl⟩:u=.agg #[.string sf,.string so,.int .i64 p0,.int .i64 p1,.int .i64 p2,.int .i64 p3,.int .i64 p4,.int .i64 p5,.int .i64 p6]∧code=0:=by
      have h:=hfl.out
      rcases hu.out with ⟨h1,h2,h3⟩|⟨h1,h2,h3⟩
      ·first|exact ⟨h2,h3⟩|(rw [h] at h1;cases h1)
      ·first|(rw [h] at h1;cases h1;done)|exact ⟨h2,h3⟩
     go_wp2_with fail
     refine bodyPost_ret (v:=.tuple #[.agg #[.string sf,.string so,.int .i64 p0,.int .i64 p1,.int .i64 p2,.int .i64 p3,.int .i64 p4,.int .i64 p5,.int .i64 p6],.int .i64 0]) (by simp [results,Tryz.results110,go_sem,k0,k1,k2,k3,k4,k5,k6,k7,k8]) rfl ?_
     exact ⟨rfl,HF.out _ _ _ _ _ _ _ _ _⟩
end Go.Proofs.YtigicjakloiliaaGreatDoor
