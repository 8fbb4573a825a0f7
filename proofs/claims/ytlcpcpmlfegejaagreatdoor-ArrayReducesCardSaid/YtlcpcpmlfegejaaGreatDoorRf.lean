/- The document's run and NatRead. -/
import Derived.Test.YtlcpcpmlfegejaaGreatDoorQG
set_option maxHeartbeats 3200000
set_option maxRecDepth 100000
namespace Go.Proofs.YtlcpcpmlfegejaaGreatDoor
open Go.RowKit Big
open Go.Lib
theorem run_any (s:ByteArray) (w:World) (hs:(s.size:Int)≤1000000):Calls Tryz.prog 180 #[.string s,.int .i64 0] w fun e w'=>e=.returned (.int .i64 (cntD s.data.toList))∧w=w':=by
 go_enter Tryz.func180,Tryz.ntmps180
 go_wp2_with fail
 go_loop [5] (fun i=>∃ k:Nat,k≤s.size∧i=.int .i64 k∧Hid ((s.data.toList.take k).all isDig=true)) (fun i=>s.size-(intOf i).toNat)
 case atStart=>exact ⟨0,Nat.zero_le _,rfl,hiD (by simp)⟩
 case round =>
  obtain ⟨k,hk,rfl,hall⟩:=hrel
  by_cases hlt:k<s.size
  ·have hkl:k<s.data.toList.length:=by simpa using hlt
   have hb:Hid (∀ d,isDig s[k]=d→isDig s.data.toList[k]=d):=hiD (fun d h=>h)
   rcases (show (s[k].toNat:Int)<48∨(57:Int)<s[k].toNat∨((48:Int)≤s[k].toNat∧(s[k].toNat:Int)≤57) from by omega) with h0|h1|⟨h2a,h2b⟩
   ·have hf:Hid (cntD s.data.toList=k):=hiD (tw_len _ _ k (by omega) hall.out (.inr ⟨hkl,hb.out _ (by simp [isDig];omega)⟩))
    go_wp2
    go_ret
    exact ⟨by rw [hf.out];rfl,rfl⟩
   ·have hf:Hid (cntD s.data.toList=k):=hiD (tw_len _ _ k (by omega) hall.out (.inr ⟨hkl,hb.out _ (by simp [isDig];omega)⟩))
    go_wp2
    go_ret
    exact ⟨by rw [hf.out];rfl,rfl⟩
   ·have hn:Hid ((s.data.toList.take (k+1)).all isDig=true):=hiD (all_take_succ' _ _ k hkl hall.out (hb.out _ (by simp [isDig];omega)))
    go_wp2
    go_round
    case rel=>exact ⟨k+1,by omega,by go_num,hn⟩
    case measure=>simp [intOf];omega
  ·have hf:Hid (cntD s.data.toList=k):=hiD (tw_len _ _ k (by simpa using hk) hall.out (.inl (by simp;omega)))
   obtain rfl:k=s.size:=by omega
   go_wp2
   go_ret
   exact ⟨by rw [hf.out];rfl,rfl⟩
structure ReadInv (l:List UInt8) (e:Nat) (z:Int) (L:List Nat):Prop where
 le:e≤l.length
 at_:(z=e∧9*L.length+e=l.length)∨(z<0∧e=0)
 dig:Dig B9 L
 eq:val B9 L=dval (l.drop e)
 len:L.length≤l.length
theorem dval_step (l:List UInt8) (st i:Nat) (h1:st≤i) (h2:i<l.length):dval ((l.drop st).take (i+1-st))=10*dval ((l.drop st).take (i-st))+(l[i].toNat-48):=by
 have hlt:i-st<(l.drop st).length:=by rw [List.length_drop];omega
 rw [show i+1-st=(i-st)+1 from by omega,List.take_succ_eq_append_getElem hlt,dval_append]
 have e:(l.drop st)[i-st]=l[i]:=by rw [List.getElem_drop];congr 1;omega
 rw [e]
 show dval _*10^1+(0*10+(l[i].toNat-48))=_
 omega
theorem chunk_lt (l:List UInt8) (st i:Nat) (ha:l.all isDig=true):dval ((l.drop st).take (i-st))<10^(i-st):=by
 have h1:((l.drop st).take (i-st)).all isDig=true:=by
  rw [List.all_eq_true] at ha ⊢
  exact fun x hx=>ha x (List.mem_of_mem_drop (List.mem_of_mem_take hx))
 have h2:=dval_lt _ h1
 have h3:10^((l.drop st).take (i-st)).length≤10^(i-st):=Nat.pow_le_pow_right (by omega) (by rw [List.length_take];omega)
 omega
theorem ReadInv.next {l:List UInt8} {e st:Nat} {z:Int} {L:List Nat} (h:ReadInv l e z L) (ha:l.all isDig=true) (he:0<e) (hst:st=e-9) :
  ReadInv l st (z-9) (L++[dval ((l.drop st).take (e-st))]):=by
 have hle:=h.le
 have hat:z=e∧9*L.length+e=l.length:=h.at_.resolve_right fun h=>by omega
 have hc:=chunk_lt l st e ha
 have h9:(10:Nat)^(e-st)≤10^9:=Nat.pow_le_pow_right (by omega) (by omega)
 have e9:=B9_eq
 refine ⟨by omega,?_,h.dig.append (Dig.one (by omega)),?_,by rw [List.length_append];simp;omega⟩
 ·by_cases h10:9≤e
  ·exact .inl ⟨by omega,by rw [List.length_append];simp;omega⟩
  ·exact .inr ⟨by omega,by omega⟩
 ·have e1:l.drop st=(l.drop st).take (e-st)++l.drop e:=by
   conv=>lhs;rw [← List.take_append_drop (e-st) (l.drop st)]
   rw [List.drop_drop,show st+(e-st)=e from by omega]
  rw [val_snoc,h.eq]
  conv=>rhs;rw [e1]
  rw [dval_append,List.length_drop,B9_pow,show 9*L.length=l.length-e from by omega,Nat.mul_comm,Nat.add_comm]
theorem natRead_any (s:ByteArray) (w:World) (hs:(s.size:Int)≤1000000) (ha:s.data.toList.all isDig=true):Calls Tryz.prog 181 #[.string s] w (Post9 (dval s.data.toList) w):=by
 obtain ⟨i0,hi,hz0,hz1,hz2⟩:=info_parts info79
 have Ha:=hiD ha
 clear ha
 obtain ⟨l,hl⟩:∃ l,Hid (l=s.data.toList):=⟨_,hiD rfl⟩
 have hll:Hid (l.length=s.size):=hiD (by rw [hl.out];simp)
 have hst:Hid (ReadInv l s.size s.size []):=hiD ⟨by rw [hll.out];exact Nat.le_refl _,.inl ⟨rfl,by rw [hll.out];simp⟩,Dig.nil _,by rw [List.drop_eq_nil_of_le (by rw [hll.out];exact Nat.le_refl _)];rfl,by simp⟩
 have Ha2:Hid (l.all isDig=true):=hiD (by rw [hl.out];exact Ha.out)
 go_enter Tryz.func181,Tryz.ntmps181
 go_wp2_with fail
 go_loopw [3,4] (fun ov zv wr=>∃ (e:Nat) (z:Int) (L:List Nat) (po:Option Addr) (no co:Nat),zv=.int .i64 z∧ov=.slice po no co∧-9≤z∧z≤1000000∧Hid (ReadInv l e z L)∧Hid (Acc w wr ov L)) (fun _ zv _=>(intOf zv).toNat)
 case atStart=>exact ⟨s.size,s.size,[],_,_,_,rfl,rfl,by omega,by omega,hst,hiD (Acc.nil _ _ (Below.refl _ _))⟩
 case round =>
  obtain ⟨e,z,L,po,no,co,rfl,rfl,hz1',hz2',hinv,hacc⟩:=hrel
  by_cases h0:0<z
  ·have hat:=hinv.out.at_.resolve_right fun h=>by omega
   obtain ⟨rfl,h9⟩:=hat
   have H9:=hiD h9
   clear h9
   obtain ⟨st,hst9⟩:∃ st,Hid (st=e-9):=⟨_,hiD rfl⟩
   have hstv:max ((e:Int)-9) 0=(st:Int):=by rw [hst9.out];omega
   have hste:st≤e:=by rw [hst9.out];omega
   have hes:Hid (e≤s.size):=hiD (by have:=hinv.out.le;rw [hll.out] at this;exact this)
   (go_wp2_with fail)<;>(
    go_loopw [5,6] (fun dv iv w2=>∃ (i:Nat),st≤i∧i≤e∧iv=.int .i64 i∧dv=.int .u64 ((dval ((l.drop st).take (i-st)):Nat):Int)∧wr=w2) (fun _ iv _=>e-(intOf iv).toNat)
    case atStart=>exact ⟨st,Nat.le_refl _,hste,by first|rfl|(rw [hstv])|(congr 1;omega),by simp [dval],rfl⟩
    case round =>
     obtain ⟨i,hi1,hi2,rfl,rfl,rfl⟩:=hrel
     obtain ⟨D,hD⟩:∃ D,Hid (dval ((l.drop st).take (i-st))=D):=⟨_,hiD rfl⟩
     rw [hD.out]
     by_cases hlt:i<e
     ·have e1:(i:Int)<e:=by omega
      have hlt2:i<s.size:=by have:=hes.out;omega
      have hil:i<l.length:=by rw [hll.out];exact hlt2
      have hdg:isDig l[i]=true:=List.all_eq_true.1 Ha2.out _ (List.getElem_mem hil)
      have hgl:Hid (l[i]=s[i]):=hiD (by have h:=hl.out;subst h;rfl)
      rw [hgl.out] at hdg
      have hdg2:48≤s[i].toNat∧s[i].toNat≤57:=by simpa [isDig] using hdg
      have hb1:(48:Int)≤s[i].toNat:=by omega
      have hb2:(s[i].toNat:Int)≤57:=by omega
      have hDb:(D:Int)≤100000000:=by
       have h1:=chunk_lt l st i Ha2.out
       rw [hD.out] at h1
       have h2:(10:Nat)^(i-st)≤10^8:=Nat.pow_le_pow_right (by omega) (by have:=hst9.out;omega)
       omega
      obtain ⟨D2,hD2⟩:∃ D2:Nat,Hid (dval ((l.drop st).take (i+1-st))=D2):=⟨_,hiD rfl⟩
      have hDv:(10:Int)*D+((s[i].toNat:Int)-48)=(D2:Int):=by
       rw [← hD2.out,dval_step l st i hi1 hil,hD.out,hgl.out];omega
      clear hdg hdg2 hgl hil
      go_wp2_with fail
      go_roundw
      case rel=>exact ⟨i+1,by omega,by omega,by go_num,by rw [hD2.out],trivial⟩
      case measure=>simp [intOf];omega
     ·obtain rfl:i=e:=by omega
      have hinv2:Hid (ReadInv l st ((i:Int)-9) (L++[D])):=hiD (by rw [← hD.out];exact hinv.out.next Ha2.out (by omega) hst9.out)
      have hlen:Hid (L.length+1≤maxLen∧(L.length+1)*8≤140737488355328∧w.heap.size≤wr.heap.size+1):=hiD (by
       have h1:=hinv.out.len
       have h2:=hll.out
       have h:=hacc.out.below.size
       unfold maxLen;omega)
      go_wp2_with (at_builtin;refine wpList_append_own _ rfl (.tmp 29) (.tmp 31) 98 rfl w.heap.size 137 i0 (.int .u64 0) 1 8 underlying36 hi hz0 hz1 hz2 rfl (by decide) _ _ _ rfl ((hacc.out.own).alloc _) ⟨_,0,none⟩ 1 1 [.int .u64 (D:Int)] rfl rfl (cell_one_new _ _ _) (by intro u hu;simp at hu;subst hu;rfl) hlen.out.1 hlen.out.2.1 (by simp;exact hlen.out.2.2) ?_)
      intro v5 w5 hown5 hgrow5 _
      have hnext:=hiD (hacc.out.next (x:=D) rfl hown5 hgrow5)
      obtain ⟨p5,c5,rfl,-⟩:=own_rd hnext.out.own
      clear hown5 hgrow5
      go_wp2_with fail
      go_roundw
      case rel=>exact ⟨st,(i:Int)-9,_,_,_,_,rfl,rfl,by omega,by omega,hinv2,hnext⟩
      case measure=>simp [intOf];omega)
  ·have hval:Hid (val B9 L=dval s.data.toList):=hiD (by
    have h:=hinv.out.eq
    have he:e=0:=by rcases hinv.out.at_ with ⟨h1,_⟩|⟨_,h2⟩<;>omega
    rw [he,List.drop_zero,hl.out] at h
    exact h)
   have ht:Hid (Calls Tryz.prog 151 #[.slice po no co] wr (Post9 (dval s.data.toList) w)):=hiD (by
    obtain ⟨p',c',h,hnc,hr,hf⟩:=own_rd hacc.out.own
    cases h
    rw [← hval.out]
    exact (trim_any _ _ _ L wr (by have h1:=hinv.out.len;have h2:=hll.out;unfold maxLen;omega) hnc.1 hr).mono fun _ _ h=>trim_post9 hnc hf hr hinv.out.dig hacc.out.below h)
   go_wp2_with fail
   refine ht.out.mono ?_
   rintro e' w4 ⟨v,rfl,hv⟩
   obtain ⟨pv,nv,cv,rfl⟩:=hv.1.slice
   go_wp2_with fail
   go_ret
   exact ⟨_,rfl,hv⟩
structure Bx (B:Nat) (c:Array Value) (w0 W:World):Prop where
 size:B+1≤W.heap.size
 below:Below w0.heap.size w0 W
 x:W.heap[B]?=some (.cells c 100 (0,0))
theorem Bx.start (w:World) (c:Array Value):Bx w.heap.size c w (w.alloc (.cells c 100)):=⟨by simp,below_alloc9 _ _,heap_new _ _⟩
theorem Bx.next {B:Nat} {c:Array Value} {w0 W W':World} (h:Bx B c w0 W) (hb:Below W.heap.size W W'):Bx B c w0 W':=⟨Nat.le_trans h.size hb.size,h.below.trans (hb.mono h.below.size),(hb.block _ (by have:=h.size;omega)).trans h.x⟩
theorem Bx.drew {B:Nat} {c:Array Value} {w0 W:World} (h:Bx B c w0 W):Bx B c w0 W.drew:=⟨h.size,h.below.drew,h.x⟩
theorem Bx.all {B:Nat} {a b c:Value} {w0 W:World} (h:Bx B #[a,b,c] w0 W):Bx B #[a,b,c] w0 W∧W.cell? ⟨B,0,none⟩=some a∧W.cell? ⟨B,1,none⟩=some b∧W.cell? ⟨B,2,none⟩=some c :=
 ⟨h,ceh h.x 0,ceh h.x 1,ceh h.x 2⟩
theorem text_long1 (u1 v1:Value) (s:Bool) (q:Rat) (sn sd _y:ByteArray) (w:World) (_ok:Bool) (hX:Hid (∀ W,Below w.heap.size w W→Calls Tryz.prog 148 #[u1] W fun e w'=>e=.returned (.string sn)∧Below W.heap.size W w')) (hden:Hid (∀ W,Below w.heap.size w W→Calls Tryz.prog 116 #[.agg #[.bool s,u1,v1]] W (Some9 q.den W)))
  (hD:Hid (∀ W v,Nat9 W v q.den→Calls Tryz.prog 148 #[v] W fun e w'=>e=.returned (.string sd)∧Below W.heap.size W w')) (h1:(40:Int)<sn.size) :
  Calls Tryz.prog 113 #[.agg #[.bool s,u1,v1]] w fun e w'=>e=.returned (.tuple #[.string ⟨#[]⟩,.bool false])∧Below w.heap.size w w':=by
 have hbx:=Bx.start w #[.bool s,u1,v1]
 have Hbx:=hiD hbx
 obtain ⟨-,c0,c1,c2⟩:=hbx.all
 clear hbx
 go_enter Tryz.func113,Tryz.ntmps113
 go_wp2_with fail
 go_region_held3 (fun w'=>Bx w.heap.size #[.bool s,u1,v1] w w'∧w'.cell? ⟨w.heap.size,0,none⟩=some (.bool s)∧w'.cell? ⟨w.heap.size,1,none⟩=some u1∧w'.cell? ⟨w.heap.size,2,none⟩=some v1)
  (first|exact Bx.all (Bx.drew Hbx.out)|exact Bx.all Hbx.out|(go_split_ands;exact Bx.all (Bx.next (by assumption) hb1))|(go_split_ands;exact Bx.all (Bx.next (by assumption) hb2))|(go_split_ands;exact Bx.all (Bx.next (by assumption) hb3))|go_keep)
  (first|(go_at_call_of 148 u1;go_split_ands;refine (hX.out _ (Bx.below (by assumption))).mono ?_;rintro e w1 ⟨rfl,hb1⟩)|(go_at_call 116;go_split_ands;refine (hden.out _ (Bx.below (by assumption))).mono ?_;rintro e w2 ⟨p2,n2,k2,rfl,hv2,hb2⟩)|(go_at_call 148;go_split_ands;refine (hD.out _ _ hv2).mono ?_;rintro e w3 ⟨rfl,hb3⟩;have htw:=Bx.next (by assumption) hb3))
 obtain ⟨-,c0,c1,c2⟩:=htw.all
 have Hb3:=hiD htw.below
 go_wp2_with fail
 go_ret2
 exact ⟨rfl,Hb3.out⟩
theorem text_long2 (u1 v1:Value) (s:Bool) (q:Rat) (sn sd _y:ByteArray) (w:World) (_ok:Bool) (hX:Hid (∀ W,Below w.heap.size w W→Calls Tryz.prog 148 #[u1] W fun e w'=>e=.returned (.string sn)∧Below W.heap.size W w')) (hden:Hid (∀ W,Below w.heap.size w W→Calls Tryz.prog 116 #[.agg #[.bool s,u1,v1]] W (Some9 q.den W)))
  (hD:Hid (∀ W v,Nat9 W v q.den→Calls Tryz.prog 148 #[v] W fun e w'=>e=.returned (.string sd)∧Below W.heap.size W w')) (h1:(sn.size:Int)≤40) (h2:(40:Int)<sd.size) :
  Calls Tryz.prog 113 #[.agg #[.bool s,u1,v1]] w fun e w'=>e=.returned (.tuple #[.string ⟨#[]⟩,.bool false])∧Below w.heap.size w w':=by
 have hbx:=Bx.start w #[.bool s,u1,v1]
 have Hbx:=hiD hbx
 obtain ⟨-,c0,c1,c2⟩:=hbx.all
 clear hbx
 go_enter Tryz.func113,Tryz.ntmps113
 go_wp2_with fail
 go_region_held3 (fun w'=>Bx w.heap.size #[.bool s,u1,v1] w w'∧w'.cell? ⟨w.heap.size,0,none⟩=some (.bool s)∧w'.cell? ⟨w.heap.size,1,none⟩=some u1∧w'.cell? ⟨w.heap.size,2,none⟩=some v1)
  (first|exact Bx.all (Bx.drew Hbx.out)|exact Bx.all Hbx.out|(go_split_ands;exact Bx.all (Bx.next (by assumption) hb1))|(go_split_ands;exact Bx.all (Bx.next (by assumption) hb2))|(go_split_ands;exact Bx.all (Bx.next (by assumption) hb3))|go_keep)
  (first|(go_at_call_of 148 u1;go_split_ands;refine (hX.out _ (Bx.below (by assumption))).mono ?_;rintro e w1 ⟨rfl,hb1⟩)|(go_at_call 116;go_split_ands;refine (hden.out _ (Bx.below (by assumption))).mono ?_;rintro e w2 ⟨p2,n2,k2,rfl,hv2,hb2⟩)|(go_at_call 148;go_split_ands;refine (hD.out _ _ hv2).mono ?_;rintro e w3 ⟨rfl,hb3⟩;have htw:=Bx.next (by assumption) hb3))
 obtain ⟨-,c0,c1,c2⟩:=htw.all
 have Hb3:=hiD htw.below
 go_wp2_with fail
 go_ret2
 exact ⟨rfl,Hb3.out⟩
theorem text_true_true (u1 v1:Value) (s:Bool) (q:Rat) (sn sd _y:ByteArray) (w:World) (_ok:Bool) (hX:Hid (∀ W,Below w.heap.size w W→Calls Tryz.prog 148 #[u1] W fun e w'=>e=.returned (.string sn)∧Below W.heap.size W w')) (hden:Hid (∀ W,Below w.heap.size w W→Calls Tryz.prog 116 #[.agg #[.bool s,u1,v1]] W (Some9 q.den W)))
  (hD:Hid (∀ W v,Nat9 W v q.den→Calls Tryz.prog 148 #[v] W fun e w'=>e=.returned (.string sd)∧Below W.heap.size W w')) (h1:(sn.size:Int)≤40) (h2:(sd.size:Int)≤40) (h3:(sd.toList==[49])=true) (hs:s=true) :
  Calls Tryz.prog 113 #[.agg #[.bool s,u1,v1]] w fun e w'=>e=.returned (.tuple #[.string (⟨#[45]⟩++sn),.bool true])∧Below w.heap.size w w':=by
 subst hs
 have hbx:=Bx.start w #[.bool true,u1,v1]
 have Hbx:=hiD hbx
 obtain ⟨-,c0,c1,c2⟩:=hbx.all
 clear hbx
 go_enter Tryz.func113,Tryz.ntmps113
 go_wp2_with fail
 go_region_held3 (fun w'=>Bx w.heap.size #[.bool true,u1,v1] w w'∧w'.cell? ⟨w.heap.size,0,none⟩=some (.bool true)∧w'.cell? ⟨w.heap.size,1,none⟩=some u1∧w'.cell? ⟨w.heap.size,2,none⟩=some v1)
  (first|exact Bx.all (Bx.drew Hbx.out)|exact Bx.all Hbx.out|(go_split_ands;exact Bx.all (Bx.next (by assumption) hb1))|(go_split_ands;exact Bx.all (Bx.next (by assumption) hb2))|(go_split_ands;exact Bx.all (Bx.next (by assumption) hb3))|go_keep)
  (first|(go_at_call_of 148 u1;go_split_ands;refine (hX.out _ (Bx.below (by assumption))).mono ?_;rintro e w1 ⟨rfl,hb1⟩)|(go_at_call 116;go_split_ands;refine (hden.out _ (Bx.below (by assumption))).mono ?_;rintro e w2 ⟨p2,n2,k2,rfl,hv2,hb2⟩)|(go_at_call 148;go_split_ands;refine (hD.out _ _ hv2).mono ?_;rintro e w3 ⟨rfl,hb3⟩;have htw:=Bx.next (by assumption) hb3))
 obtain ⟨-,c0,c1,c2⟩:=htw.all
 have Hb3:=hiD htw.below
 go_wp2_with fail
 go_ret2
 exact ⟨rfl,Hb3.out⟩
theorem text_true_false (u1 v1:Value) (s:Bool) (q:Rat) (sn sd _y:ByteArray) (w:World) (_ok:Bool) (hX:Hid (∀ W,Below w.heap.size w W→Calls Tryz.prog 148 #[u1] W fun e w'=>e=.returned (.string sn)∧Below W.heap.size W w')) (hden:Hid (∀ W,Below w.heap.size w W→Calls Tryz.prog 116 #[.agg #[.bool s,u1,v1]] W (Some9 q.den W)))
  (hD:Hid (∀ W v,Nat9 W v q.den→Calls Tryz.prog 148 #[v] W fun e w'=>e=.returned (.string sd)∧Below W.heap.size W w')) (h1:(sn.size:Int)≤40) (h2:(sd.size:Int)≤40) (h3:(sd.toList==[49])=false) (hs:s=true) :
  Calls Tryz.prog 113 #[.agg #[.bool s,u1,v1]] w fun e w'=>e=.returned (.tuple #[.string ((⟨#[45]⟩++sn)++⟨#[47]⟩++sd),.bool true])∧Below w.heap.size w w':=by
 subst hs
 have hbx:=Bx.start w #[.bool true,u1,v1]
 have Hbx:=hiD hbx
 obtain ⟨-,c0,c1,c2⟩:=hbx.all
 clear hbx
 go_enter Tryz.func113,Tryz.ntmps113
 go_wp2_with fail
 go_region_held3 (fun w'=>Bx w.heap.size #[.bool true,u1,v1] w w'∧w'.cell? ⟨w.heap.size,0,none⟩=some (.bool true)∧w'.cell? ⟨w.heap.size,1,none⟩=some u1∧w'.cell? ⟨w.heap.size,2,none⟩=some v1)
  (first|exact Bx.all (Bx.drew Hbx.out)|exact Bx.all Hbx.out|(go_split_ands;exact Bx.all (Bx.next (by assumption) hb1))|(go_split_ands;exact Bx.all (Bx.next (by assumption) hb2))|(go_split_ands;exact Bx.all (Bx.next (by assumption) hb3))|go_keep)
  (first|(go_at_call_of 148 u1;go_split_ands;refine (hX.out _ (Bx.below (by assumption))).mono ?_;rintro e w1 ⟨rfl,hb1⟩)|(go_at_call 116;go_split_ands;refine (hden.out _ (Bx.below (by assumption))).mono ?_;rintro e w2 ⟨p2,n2,k2,rfl,hv2,hb2⟩)|(go_at_call 148;go_split_ands;refine (hD.out _ _ hv2).mono ?_;rintro e w3 ⟨rfl,hb3⟩;have htw:=Bx.next (by assumption) hb3))
 obtain ⟨-,c0,c1,c2⟩:=htw.all
 have Hb3:=hiD htw.below
 go_wp2_with fail
 go_ret2
 exact ⟨rfl,Hb3.out⟩
theorem text_false_true (u1 v1:Value) (s:Bool) (q:Rat) (sn sd _y:ByteArray) (w:World) (_ok:Bool) (hX:Hid (∀ W,Below w.heap.size w W→Calls Tryz.prog 148 #[u1] W fun e w'=>e=.returned (.string sn)∧Below W.heap.size W w')) (hden:Hid (∀ W,Below w.heap.size w W→Calls Tryz.prog 116 #[.agg #[.bool s,u1,v1]] W (Some9 q.den W)))
  (hD:Hid (∀ W v,Nat9 W v q.den→Calls Tryz.prog 148 #[v] W fun e w'=>e=.returned (.string sd)∧Below W.heap.size W w')) (h1:(sn.size:Int)≤40) (h2:(sd.size:Int)≤40) (h3:(sd.toList==[49])=true) (hs:s=false) :
  Calls Tryz.prog 113 #[.agg #[.bool s,u1,v1]] w fun e w'=>e=.returned (.tuple #[.string sn,.bool true])∧Below w.heap.size w w':=by
 subst hs
 have hbx:=Bx.start w #[.bool false,u1,v1]
 have Hbx:=hiD hbx
 obtain ⟨-,c0,c1,c2⟩:=hbx.all
 clear hbx
 go_enter Tryz.func113,Tryz.ntmps113
 go_wp2_with fail
 go_region_held3 (fun w'=>Bx w.heap.size #[.bool false,u1,v1] w w'∧w'.cell? ⟨w.heap.size,0,none⟩=some (.bool false)∧w'.cell? ⟨w.heap.size,1,none⟩=some u1∧w'.cell? ⟨w.heap.size,2,none⟩=some v1)
  (first|exact Bx.all (Bx.drew Hbx.out)|exact Bx.all Hbx.out|(go_split_ands;exact Bx.all (Bx.next (by assumption) hb1))|(go_split_ands;exact Bx.all (Bx.next (by assumption) hb2))|(go_split_ands;exact Bx.all (Bx.next (by assumption) hb3))|go_keep)
  (first|(go_at_call_of 148 u1;go_split_ands;refine (hX.out _ (Bx.below (by assumption))).mono ?_;rintro e w1 ⟨rfl,hb1⟩)|(go_at_call 116;go_split_ands;refine (hden.out _ (Bx.below (by assumption))).mono ?_;rintro e w2 ⟨p2,n2,k2,rfl,hv2,hb2⟩)|(go_at_call 148;go_split_ands;refine (hD.out _ _ hv2).mono ?_;rintro e w3 ⟨rfl,hb3⟩;have htw:=Bx.next (by assumption) hb3))
 obtain ⟨-,c0,c1,c2⟩:=htw.all
 have Hb3:=hiD htw.below
 go_wp2_with fail
 go_ret2
 exact ⟨rfl,Hb3.out⟩
theorem text_false_false (u1 v1:Value) (s:Bool) (q:Rat) (sn sd _y:ByteArray) (w:World) (_ok:Bool) (hX:Hid (∀ W,Below w.heap.size w W→Calls Tryz.prog 148 #[u1] W fun e w'=>e=.returned (.string sn)∧Below W.heap.size W w')) (hden:Hid (∀ W,Below w.heap.size w W→Calls Tryz.prog 116 #[.agg #[.bool s,u1,v1]] W (Some9 q.den W)))
  (hD:Hid (∀ W v,Nat9 W v q.den→Calls Tryz.prog 148 #[v] W fun e w'=>e=.returned (.string sd)∧Below W.heap.size W w')) (h1:(sn.size:Int)≤40) (h2:(sd.size:Int)≤40) (h3:(sd.toList==[49])=false) (hs:s=false) :
  Calls Tryz.prog 113 #[.agg #[.bool s,u1,v1]] w fun e w'=>e=.returned (.tuple #[.string (sn++⟨#[47]⟩++sd),.bool true])∧Below w.heap.size w w':=by
 subst hs
 have hbx:=Bx.start w #[.bool false,u1,v1]
 have Hbx:=hiD hbx
 obtain ⟨-,c0,c1,c2⟩:=hbx.all
 clear hbx
 go_enter Tryz.func113,Tryz.ntmps113
 go_wp2_with fail
 go_region_held3 (fun w'=>Bx w.heap.size #[.bool false,u1,v1] w w'∧w'.cell? ⟨w.heap.size,0,none⟩=some (.bool false)∧w'.cell? ⟨w.heap.size,1,none⟩=some u1∧w'.cell? ⟨w.heap.size,2,none⟩=some v1)
  (first|exact Bx.all (Bx.drew Hbx.out)|exact Bx.all Hbx.out|(go_split_ands;exact Bx.all (Bx.next (by assumption) hb1))|(go_split_ands;exact Bx.all (Bx.next (by assumption) hb2))|(go_split_ands;exact Bx.all (Bx.next (by assumption) hb3))|go_keep)
  (first|(go_at_call_of 148 u1;go_split_ands;refine (hX.out _ (Bx.below (by assumption))).mono ?_;rintro e w1 ⟨rfl,hb1⟩)|(go_at_call 116;go_split_ands;refine (hden.out _ (Bx.below (by assumption))).mono ?_;rintro e w2 ⟨p2,n2,k2,rfl,hv2,hb2⟩)|(go_at_call 148;go_split_ands;refine (hD.out _ _ hv2).mono ?_;rintro e w3 ⟨rfl,hb3⟩;have htw:=Bx.next (by assumption) hb3))
 obtain ⟨-,c0,c1,c2⟩:=htw.all
 have Hb3:=hiD htw.below
 go_wp2_with fail
 go_ret2
 exact ⟨rfl,Hb3.out⟩
theorem bytes_eq {a b:ByteArray} (h:a.data.toList=b.data.toList):a=b:=by
 cases a;cases b;congr 1;exact Array.toList_inj.1 h
theorem dec_one_iff9 (d:Nat):(decDigits d==[49])=decide (d=1):=by
 by_cases h:d=1
 ·subst h;rw [decDigits_one (by omega)];rfl
 ·rw [decide_eq_false h,beq_eq_false_iff_ne]
  intro e
  have h1:=(dec_all d).2
  rw [e] at h1
  exact h (by rw [← h1];rfl)
def TextPost9 (q:Rat) (w:World) (e:Ending) (w':World):Prop:=e=.returned (.tuple #[.string ⟨(txt q).toArray⟩,.bool (!(txt q).isEmpty)])∧Below w.heap.size w w'
theorem txt_yes {q:Rat} (h1:nDigits q.num.natAbs≤40) (h2:nDigits q.den≤40):txt q=wrote (decide (q.num<0)) q.num.natAbs q.den∧(!(txt q).isEmpty)=true:=by
 have e:=txt_eq q
 rw [if_pos ⟨h1,h2⟩] at e
 refine ⟨e,?_⟩
 rw [e]
 have:=wrote_ne (decide (q.num<0)) q.num.natAbs q.den
 cases h:wrote (decide (q.num<0)) q.num.natAbs q.den with
 | nil=>exact absurd h this
 | cons x l=>rfl
theorem txt_no {q:Rat} (h:¬ (nDigits q.num.natAbs≤40∧nDigits q.den≤40)):txt q=[]:=by
 rw [txt_eq,if_neg h]
theorem text_q (x:Value) (q:Rat) (K:Nat) (w:World) (hK:K≤900000) (hq:QLt K q) (hx:QAt w x q):Calls Tryz.prog 113 #[x] w (TextPost9 q w):=by
 have hden0:=fun W (hW:Below w.heap.size w W)=>den_any x q W (hx.below hW)
 obtain ⟨u1,v1,rfl,hu,hv⟩:=hx
 obtain ⟨sn,hsn⟩:∃ sn:ByteArray,sn=⟨(decDigits q.num.natAbs).toArray⟩:=⟨_,rfl⟩
 obtain ⟨sd,hsd⟩:∃ sd:ByteArray,sd=⟨(decDigits q.den).toArray⟩:=⟨_,rfl⟩
 have hX:Hid (∀ W,Below w.heap.size w W→Calls Tryz.prog 148 #[u1] W fun e w'=>e=.returned (.string sn)∧Below W.heap.size W w'):=hiD fun W hW=>by
  rw [hsn];exact natText_any u1 _ K W hK hq.1 (hu.below hW)
 have hD:Hid (∀ W v,Nat9 W v q.den→Calls Tryz.prog 148 #[v] W fun e w'=>e=.returned (.string sd)∧Below W.heap.size W w'):=hiD fun W v h=>by
  rw [hsd];exact natText_any v _ K W hK hq.2 h
 obtain ⟨s,hs⟩:∃ s,s=decide (q.num<0):=⟨_,rfl⟩
 rw [← hs] at hden0 ⊢
 have hden:=hiD hden0
 have z1:sn.size=nDigits q.num.natAbs:=by rw [hsn,size_toArray,decDigits_length]
 have z2:sd.size=nDigits q.den:=by rw [hsd,size_toArray,decDigits_length]
 have t1:sn.data.toList=decDigits q.num.natAbs:=by rw [hsn]
 have t2:sd.data.toList=decDigits q.den:=by rw [hsd]
 unfold TextPost9
 by_cases h1:nDigits q.num.natAbs≤40
 ·by_cases h2:nDigits q.den≤40
  ·obtain ⟨e1,e2⟩:=txt_yes h1 h2
   rw [e2]
   have h3:(sd.toList==[49])=decide (q.den=1):=by
    have e:sd.toList=decDigits q.den:=by rw [Lib.toList_data];exact t2
    rw [e];exact dec_one_iff9 _
   have fin:∀ y:ByteArray,y.data.toList=txt q→(Calls Tryz.prog 113 #[.agg #[.bool s,u1,v1]] w fun e w'=>e=.returned (.tuple #[.string y,.bool true])∧Below w.heap.size w w')→Calls Tryz.prog 113 #[.agg #[.bool s,u1,v1]] w fun e w'=>e=.returned (.tuple #[.string ⟨(txt q).toArray⟩,.bool true])∧Below w.heap.size w w':=by
    intro y hy h
    have:y=⟨(txt q).toArray⟩:=bytes_eq (by rw [hy])
    rw [this] at h;exact h
   rw [e1] at fin ⊢
   rw [← hs] at fin ⊢
   unfold wrote at fin ⊢
   by_cases hd:q.den=1
   ·rw [hd,decide_eq_true rfl] at h3
    rw [if_pos hd] at fin ⊢
    cases s with
    | true=>exact fin _ (by simp [t1]) (text_true_true u1 v1 true q sn sd ⟨#[]⟩ w true hX hden hD (by omega) (by omega) h3 rfl)
    | false=>exact fin _ (by simp [t1]) (text_false_true u1 v1 false q sn sd ⟨#[]⟩ w true hX hden hD (by omega) (by omega) h3 rfl)
   ·rw [decide_eq_false hd] at h3
    rw [if_neg hd] at fin ⊢
    cases s with
    | true=>exact fin _ (by simp [t1,t2]) (text_true_false u1 v1 true q sn sd ⟨#[]⟩ w true hX hden hD (by omega) (by omega) h3 rfl)
    | false=>exact fin _ (by simp [t1,t2]) (text_false_false u1 v1 false q sn sd ⟨#[]⟩ w true hX hden hD (by omega) (by omega) h3 rfl)
  ·rw [txt_no (fun h=>h2 h.2)]
   exact text_long2 u1 v1 s q sn sd ⟨#[]⟩ w true hX hden hD (by omega) (by omega)
 ·rw [txt_no (fun h=>h1 h.1)]
  exact text_long1 u1 v1 s q sn sd ⟨#[]⟩ w true hX hden hD (by omega)
end Go.Proofs.YtlcpcpmlfegejaaGreatDoor
