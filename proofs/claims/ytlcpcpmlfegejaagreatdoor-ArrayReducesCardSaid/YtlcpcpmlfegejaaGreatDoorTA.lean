/- Numbers as rational numbers, and their texts. The four operations and Compare on texts: the laws of a field and of an order. -/
import Derived.Test.YtlcpcpmlfegejaaGreatDoorPart08
import Derived.Lib.ParseIntBCases
set_option maxHeartbeats 1600000
set_option maxRecDepth 100000
namespace Go.Proofs.YtlcpcpmlfegejaaGreatDoor
open Go.RowKit Go.Lib Big
theorem dec_one_iff (y:Nat):decDigits y=[49]↔y=1:=by
 constructor
 ·intro h
  have h1:=congrArg List.length h
  rw [decDigits_length] at h1
  have hy:y<10:=by
   have:=lt_pow_nDigits y
   rw [h1] at this;simpa using this
  rw [decDigits_one hy] at h
  match y,hy with
  | 0,_=>revert h;decide
  | 1,_=>rfl
  | 2,_=>revert h;decide
  | 3,_=>revert h;decide
  | 4,_=>revert h;decide
  | 5,_=>revert h;decide
  | 6,_=>revert h;decide
  | 7,_=>revert h;decide
  | 8,_=>revert h;decide
  | 9,_=>revert h;decide
 ·rintro rfl
  rw [decDigits_one (by omega)];rfl
theorem dec_size (y:Nat):(⟨(decDigits y).toArray⟩:ByteArray).size=nDigits y:=by rw [size_toArray,decDigits_length]
theorem dec_list (y:Nat):((⟨(decDigits y).toArray⟩:ByteArray).toList==[49])=decide (y=1):=by
 rw [Lib.toList_data]
 by_cases h:y=1
 ·rw [(dec_one_iff y).2 h];subst h;decide
 ·have h2:decDigits y≠[49]:=fun e=>h ((dec_one_iff y).1 e)
  simp only [h,decide_false]
  rw [beq_eq_false_iff_ne]
  simpa using h2
theorem ratText_any (x:Value) (s:Bool) (a b K D:Nat) (w:World) (hK:K≤1000000) (hD:D≤100000) (ha:a<B64^K) (hb:b<B64^K) (hb0:0<b) (hx:RatAt w x s a b) (htab:Tab w):Calls Tryz.prog 125 #[x,.int .i64 D] w (TextPost (ratText s a b D) w):=by
 obtain ⟨u,v,rfl,hu,hv,hs⟩:=hx
 have hD':(D:Int)≤100000:=by omega
 have hL:(D:Int)/19+1=((D/19+1:Nat):Int):=by omega
 have hlow:∀ W:World,Below w.heap.size w W→Calls Tryz.prog 154 #[u,v,.int .i64 ((D/19+1:Nat):Int)] W (LowPost a b (D/19+1) W):=fun W hW =>
  lowest_nat u v a b (D/19+1) K W (by omega) (by omega) ha hb hb0 (hu.below hW) (hv.below hW)
 unfold ratText
 by_cases hfit:a/Nat.gcd a b<B64^(D/19+1)∧b/Nat.gcd a b<B64^(D/19+1)
 ·have hok:∀ W:World,Below w.heap.size w W→Hid (Calls Tryz.prog 154 #[u,v,.int .i64 ((D/19+1:Nat):Int)] W (LowOk ⟨(decDigits (a/Nat.gcd a b)).toArray⟩ ⟨(decDigits (b/Nat.gcd a b)).toArray⟩ W)):=fun W hW=>hiD ((hlow W hW).mono fun e w' h=>by
   obtain ⟨hbl,h|h⟩:=h
   ·obtain ⟨-,-,tv,uv,he,h1,h2⟩:=h
    refine ⟨hbl,tv,uv,he,fun W2 hW2=>⟨hiD ?_,hiD ?_⟩⟩
    ·exact text_any tv _ (D/19+1) W2 (by omega) hfit.1 (h1.below hW2) (((htab.below hW).below hbl).below hW2)
    ·exact text_any uv _ (D/19+1) W2 (by omega) hfit.2 (h2.below hW2) (((htab.below hW).below hbl).below hW2)
   ·exact absurd hfit h.1)
  generalize a/Nat.gcd a b=n at hok ⊢
  generalize b/Nat.gcd a b=d at hok ⊢
  by_cases h1:D<nDigits n
  ·rw [if_neg (by omega)]
   exact ratText_far1 s u v D w hD' _ hL _ _ hok (by rw [dec_size];exact h1)
  ·by_cases h2:D<nDigits d
   ·rw [if_neg (by omega)]
    exact ratText_far2 s u v D w hD' _ hL _ _ hok (by rw [dec_size];exact h1) (by rw [dec_size];exact h2)
   ·rw [if_pos (by omega)]
    have k1:¬ D<(⟨(decDigits n).toArray⟩:ByteArray).size:=by rw [dec_size];exact h1
    have k2:¬ D<(⟨(decDigits d).toArray⟩:ByteArray).size:=by rw [dec_size];exact h2
    have z1:((⟨(decDigits n).toArray⟩:ByteArray).size:Int)≤100000:=by omega
    have z2:((⟨(decDigits d).toArray⟩:ByteArray).size:Int)≤100000:=by omega
    have hone:=dec_list d
    by_cases hd1:d=1
    ·rw [decide_eq_true hd1] at hone
     rw [if_pos hd1]
     cases s
     ·exact (ratText_near_ft u v D w hD' _ hL _ _ hok k1 k2 z1 hone z2).mono fun e w' h=>⟨h.2,by rw [h.1];simp⟩
     ·exact (ratText_near_tt u v D w hD' _ hL _ _ hok k1 k2 z1 hone z2).mono fun e w' h=>⟨h.2,by rw [h.1];simp;rfl⟩
    ·rw [decide_eq_false hd1] at hone
     rw [if_neg hd1]
     cases s
     ·exact (ratText_near_ff u v D w hD' _ hL _ _ hok k1 k2 z1 hone z2).mono fun e w' h=>⟨h.2,by rw [h.1];simp;rfl⟩
     ·exact (ratText_near_tf u v D w hD' _ hL _ _ hok k1 k2 z1 hone z2).mono fun e w' h=>⟨h.2,by rw [h.1];simp;rfl⟩
 ·have hbad:¬ (nDigits (a/Nat.gcd a b)≤D∧nDigits (b/Nat.gcd a b)≤D):=by
   intro h
   apply hfit
   constructor
   ·apply Decidable.byContradiction;intro h2;have:=long_of_limbs h2;omega
   ·apply Decidable.byContradiction;intro h2;have:=long_of_limbs h2;omega
  rw [if_neg hbad]
  refine ratText_long s u v D w hD' _ hL fun W hW=>hiD ((hlow W hW).mono fun e w' h=>?_)
  obtain ⟨hbl,h|h⟩:=h
  ·exact absurd ⟨h.1,h.2.1⟩ hfit
  ·exact ⟨h.2,hbl⟩
def numText (s:Bool) (a b:Nat):List UInt8:=(ratText s a b 40).getD []
theorem qtext_any (x:Value) (s:Bool) (a b K:Nat) (w:World) (hK:K≤1000000) (ha:a<B64^K) (hb:b<B64^K) (hb0:0<b) (hx:RatAt w x s a b) (htab:Tab w):Calls Tryz.prog 206 #[x] w fun e w'=>e=.returned (.string ⟨(numText s a b).toArray⟩)∧Below w.heap.size w w':=by
 have ht:∀ o,Hid (Calls Tryz.prog 125 #[x,.int .i64 40] (w.alloc o) fun e w'=>Below (w.alloc o).heap.size (w.alloc o) w'∧∃ f,e=.returned (.tuple #[.string ⟨(numText s a b).toArray⟩,.bool f])):=fun o=>hiD (by
  have h:=ratText_any x s a b K 40 (w.alloc o) hK (by omega) ha hb hb0 (hx.below (bea w o)) (htab.below (bea w o))
  refine h.mono fun e w' h=>⟨h.1,?_⟩
  unfold numText
  cases hr:ratText s a b 40 with
  | none=>have:=h.2;rw [hr] at this;exact ⟨_,this⟩
  | some l=>have:=h.2;rw [hr] at this;exact ⟨_,this⟩)
 obtain ⟨u,v,rfl,-,-,-⟩:=hx
 clear ha hb htab
 go_enter Tryz.func206,Tryz.ntmps206
 go_wp2_with fail
 refine (ht _).out.mono ?_
 rintro e w2 ⟨hb2,f,rfl⟩
 have hbw:=hiD ((bea w _).trans (hb2.mono (bea w (.cells #[.bool s,u,v] 62)).size))
 clear hb2
 go_wp2_with fail
 go_ret
 exact ⟨rfl,hbw.out⟩
theorem dval_B64 {l:List UInt8} (h:allDig l=true) (hl:l.length≤90):dval l<B64^20:=by
 have h1:=dval_lt l (allDig_all h)
 have h2:10^l.length≤10^90:=Nat.pow_le_pow_right (by omega) hl
 have h3:(10^90:Nat)≤B64^20:=by rw [B64_eq];decide
 omega
theorem readAbs_lt {l:List UInt8} {n d:Nat} (h:readAbs l=some (n,d)) (hl:l.length≤90):n<B64^20∧d<B64^20∧0<d:=by
 unfold readAbs at h
 obtain ⟨k1,k2,k3⟩:=cut_len l 46
 obtain ⟨m1,m2,m3⟩:=cut_len l 47
 have h3:(10^90:Nat)<B64^20:=by rw [B64_eq];decide
 have h1:1<B64^20:=by rw [B64_eq];decide
 split at h
 ·split at h
  ·rename_i hd
   rw [Bool.and_eq_true] at hd
   simp only [Option.some.injEq,Prod.mk.injEq] at h
   obtain ⟨rfl,rfl⟩:=h
   have e1:allDig ((Lib.cut l [46]).1++(Lib.cut l [46]).2.1)=true:=by
    unfold allDig
    rw [List.all_append,allDig_all hd.1,allDig_all hd.2]
    have:=hd.1
    unfold allDig at this
    simp at this ⊢
    intro h;exact absurd h this.2
   refine ⟨dval_B64 e1 (by rw [List.length_append];omega),?_,Nat.pow_pos (by omega)⟩
   have:10^(Lib.cut l [46]).2.1.length≤10^90:=Nat.pow_le_pow_right (by omega) (by omega)
   omega
  ·cases h
 ·split at h
  ·split at h
   ·rename_i hd
    rw [Bool.and_eq_true,Bool.and_eq_true] at hd
    simp only [Option.some.injEq,Prod.mk.injEq] at h
    obtain ⟨rfl,rfl⟩:=h
    refine ⟨dval_B64 hd.1.1 (by omega),dval_B64 hd.1.2 (by omega),?_⟩
    have:=hd.2
    simp at this;omega
   ·cases h
  ·split at h
   ·rename_i hd
    simp only [Option.some.injEq,Prod.mk.injEq] at h
    obtain ⟨rfl,rfl⟩:=h
    exact ⟨dval_B64 hd hl,h1,by omega⟩
   ·cases h
theorem readL_lt {l:List UInt8} {s:Bool} {n d:Nat} (h:readL l=some (s,n,d)) (hl:l.length≤90):n<B64^20∧d<B64^20∧0<d:=by
 unfold readL at h
 rw [Option.map_eq_some_iff] at h
 obtain ⟨⟨n',d'⟩,h1,h2⟩:=h
 cases h2
 exact readAbs_lt h1 (Nat.le_trans (trim_len l) hl)
def readQ (l:List UInt8):Option (Bool × Nat × Nat) :=
 if 82<l.length then none else
 match readL l with
 | some (s,n,d)=>if numText (s&&!(n==0)) n d=l then some (s&&!(n==0),n,d) else none
 | none=>none
theorem qread_long (s:ByteArray) (w:World) (h:(82:Int)<s.size):Calls Tryz.prog 166 #[.string s] w (ReadPost none w):=by
 have hres:=hiD (Res.start w)
 go_enter Tryz.func166,Tryz.ntmps166
 go_wp2_with fail
 refine bodyPost_ret (v:=.tuple #[.agg #[.bool false,.slice none 0 0,.slice none 0 0],.bool false]) (by simp [results,Tryz.results166,go_sem]) rfl ?_
 exact ⟨hres.out.below,rfl⟩
theorem qread_none (s:ByteArray) (w:World) (h:(s.size:Int)≤82) (hr:∀ W,Hid (Calls Tryz.prog 26 #[.string s] W (ReadPost none W))):Calls Tryz.prog 166 #[.string s] w (ReadPost none w):=by
 have hres:=hiD (Res.start w)
 go_enter Tryz.func166,Tryz.ntmps166
 go_wp2_with fail
 refine (hr _).out.mono ?_
 rintro e w2 ⟨hb2,rfl⟩
 have hres2:=hiD ((hres.out.next hb2).next (bea w2 (.cells #[.bool false,.slice none 0 0,.slice none 0 0] 62)))
 obtain ⟨z0,z1,z2,l0,l1,l2,f0,f1,f2⟩:=hres2.out.slots
 have q3:=hiD (hres2.out.put3 (Nat.le_refl _) false none none 0 0 0 0).below
 clear hb2
 go_wp2_with fail
 refine bodyPost_ret (v:=.tuple #[.agg #[.bool false,.slice none 0 0,.slice none 0 0],.bool false]) (by simp [results,Tryz.results166,go_sem,l0,l1,l2]) rfl ?_
 exact ⟨q3.out,rfl⟩
structure Boxed (w W:World) (g:Nat) (sg:Bool) (u v:Value) (n d:Nat):Prop where
 res:Res w.heap.size w W
 box:W.heap[g]?=some (.cells #[.bool sg,u,v] 62 (0,0))
 top:NatAt W u n
 bot:NatAt W v d
 gt:w.heap.size<g
 sign:sg=true→0<n
theorem Boxed.next {w W W':World} {g:Nat} {sg:Bool} {u v:Value} {n d:Nat} (h:Boxed w W g sg u v n d) (hb:Below W.heap.size W W'):Boxed w W' g sg u v n d:=by
 have hg:g<W.heap.size:=by
  rcases Nat.lt_or_ge g W.heap.size with h1|h1
  ·exact h1
  ·have:=h.box;rw [Array.getElem?_eq_none h1] at this;cases this
 exact ⟨h.res.next hb,(hb.block g hg).trans h.box,h.top.below hb,h.bot.below hb,h.gt,h.sign⟩
theorem Boxed.start {w w2:World} {sg:Bool} {u v:Value} {n d:Nat} (hr:Res w.heap.size w w2) (hx:RatAt w2 (.agg #[.bool sg,u,v]) sg n d):Boxed w (w2.alloc (.cells #[.bool sg,u,v] 62)) w2.heap.size sg u v n d:=by
 obtain ⟨u',v',he,h1,h2,h3⟩:=hx
 cases he
 exact ⟨hr.next (bea _ _),heap_new _ _,h1.below (bea _ _),h2.below (bea _ _),by have:=hr.size;omega,h3⟩
theorem Boxed.cells {w W:World} {g:Nat} {sg:Bool} {u v:Value} {n d:Nat} (h:Boxed w W g sg u v n d):W.cell? ⟨g,0,none⟩=some (.bool sg)∧W.cell? ⟨g,1,none⟩=some u∧W.cell? ⟨g,2,none⟩=some v:=⟨ceh h.box 0,ceh h.box 1,ceh h.box 2⟩
theorem qread_other (s y:ByteArray) (sg:Bool) (n d:Nat) (w:World) (h:(s.size:Int)≤82) (hr:∀ W,Hid (Calls Tryz.prog 26 #[.string s] W fun e w'=>Below W.heap.size W w'∧∃ x,e=.returned (.tuple #[x,.bool true])∧RatAt w' x sg n d))
  (ht:∀ W x,RatAt W x sg n d→Below w.heap.size w W→Hid (Calls Tryz.prog 206 #[x] W fun e w'=>e=.returned (.string y)∧Below W.heap.size W w')) (hne:(y.toList==s.toList)=false):Calls Tryz.prog 166 #[.string s] w (ReadPost none w):=by
 have hres:=hiD (Res.start w)
 go_enter Tryz.func166,Tryz.ntmps166
 go_wp2_with fail
 refine (hr _).out.mono ?_
 rintro e w2 ⟨hb2,x,rfl,hx⟩
 obtain ⟨u,v,rfl,hu,hv,hs⟩:=hx
 obtain ⟨p2,n2,k2,rfl⟩:=hu.slice
 obtain ⟨p3,n3,k3,rfl⟩:=hv.slice
 have hB:=hiD (Boxed.start (hres.out.next hb2) ⟨_,_,rfl,hu,hv,hs⟩)
 have ht2:=ht (w2.alloc (.cells #[.bool sg,.slice p2 n2 k2,.slice p3 n3 k3] 62)) (.agg #[.bool sg,.slice p2 n2 k2,.slice p3 n3 k3]) ⟨_,_,rfl,hB.out.top,hB.out.bot,hs⟩ hB.out.res.below
 clear hb2 hu hv hs
 go_wp2_with fail
 refine ht2.out.mono ?_
 rintro e w4 ⟨rfl,hb4⟩
 have hB4:=hiD (hB.out.next hb4)
 obtain ⟨z0,z1,z2,l0,l1,l2,f0,f1,f2⟩:=hB4.out.res.slots
 have q3:=hiD (hB4.out.res.put3 (Nat.le_refl _) false none none 0 0 0 0).below
 clear hb4 ht2
 go_wp2_with fail
 refine bodyPost_ret (v:=.tuple #[.agg #[.bool false,.slice none 0 0,.slice none 0 0],.bool false]) (by simp [results,Tryz.results166,go_sem,l0,l1,l2]) rfl ?_
 exact ⟨q3.out,rfl⟩
theorem qread_same (s y:ByteArray) (sg:Bool) (n d:Nat) (w:World) (h:(s.size:Int)≤82) (hr:∀ W,Hid (Calls Tryz.prog 26 #[.string s] W fun e w'=>Below W.heap.size W w'∧∃ x,e=.returned (.tuple #[x,.bool true])∧RatAt w' x sg n d))
  (ht:∀ W x,RatAt W x sg n d→Below w.heap.size w W→Hid (Calls Tryz.prog 206 #[x] W fun e w'=>e=.returned (.string y)∧Below W.heap.size W w')) (hne:(y.toList==s.toList)=true):Calls Tryz.prog 166 #[.string s] w fun e w'=>Below w.heap.size w w'∧∃ x,e=.returned (.tuple #[x,.bool true])∧RatAt w' x sg n d:=by
 have hres:=hiD (Res.start w)
 go_enter Tryz.func166,Tryz.ntmps166
 go_wp2_with fail
 refine (hr _).out.mono ?_
 rintro e w2 ⟨hb2,x,rfl,hx⟩
 obtain ⟨u,v,rfl,hu,hv,hs⟩:=hx
 obtain ⟨p2,n2,k2,rfl⟩:=hu.slice
 obtain ⟨p3,n3,k3,rfl⟩:=hv.slice
 have hB:=hiD (Boxed.start (hres.out.next hb2) ⟨_,_,rfl,hu,hv,hs⟩)
 have ht2:=ht (w2.alloc (.cells #[.bool sg,.slice p2 n2 k2,.slice p3 n3 k3] 62)) (.agg #[.bool sg,.slice p2 n2 k2,.slice p3 n3 k3]) ⟨_,_,rfl,hB.out.top,hB.out.bot,hs⟩ hB.out.res.below
 clear hb2 hu hv
 have Hs:=hiD hs
 clear hs
 go_wp2_with fail
 refine ht2.out.mono ?_
 rintro e w4 ⟨rfl,hb4⟩
 have hB4:=hiD (hB.out.next hb4)
 obtain ⟨z0,z1,z2,l0,l1,l2,f0,f1,f2⟩:=hB4.out.res.slots
 obtain ⟨c0,c1,c2⟩:=hB4.out.cells
 have hfin:Hid (∀ W,W=(((w4.setCell ⟨w.heap.size,0,none⟩ (.bool sg)).setCell ⟨w.heap.size,1,none⟩ (.slice p2 n2 k2)).setCell ⟨w.heap.size,2,none⟩ (.slice p3 n3 k3))→Below w.heap.size w W∧∃ x,Ending.returned (.tuple #[.agg #[.bool sg,.slice p2 n2 k2,.slice p3 n3 k3],.bool true])=.returned (.tuple #[x,.bool true])∧RatAt W x sg n d):=hiD (by
  rintro W rfl
  exact ⟨(hB4.out.res.put3 (Nat.le_refl _) sg p2 p3 n2 k2 n3 k3).below,_,rfl,_,_,rfl,hB4.out.res.nat3 (Nat.le_refl _) hB4.out.top sg p2 p3 n2 k2 n3 k3,hB4.out.res.nat3 (Nat.le_refl _) hB4.out.bot sg p2 p3 n2 k2 n3 k3,Hs.out⟩)
 clear hb4 ht2
 go_wp2_with fail
 refine bodyPost_ret (v:=.tuple #[.agg #[.bool sg,.slice p2 n2 k2,.slice p3 n3 k3],.bool true]) (by simp [results,Tryz.results166,go_sem,l0,l1,l2]) rfl ?_
 exact hfin.out _ rfl
theorem numText_eq (l:List UInt8) (s:ByteArray):((⟨l.toArray⟩:ByteArray).toList==s.toList)=decide (l=s.data.toList):=by
 rw [Lib.toList_data,Lib.toList_data]
 by_cases h:l=s.data.toList
 ·rw [decide_eq_true h,← h];simp
 ·rw [decide_eq_false h,beq_eq_false_iff_ne];simpa using h
def ReadQPost (o:Option (Bool × Nat × Nat)) (w:World) (e:Ending) (w':World):Prop :=
 Below w.heap.size w w'∧match o with
 | some (s,n,d)=>∃ x,e=.returned (.tuple #[x,.bool true])∧RatAt w' x s n d
 | none=>e=.returned (.tuple #[.agg #[.bool false,.slice none 0 0,.slice none 0 0],.bool false])
theorem qread_any (s:ByteArray) (w:World) (htab:Tab w):Calls Tryz.prog 166 #[.string s] w (ReadQPost (readQ s.data.toList) w):=by
 have hl:s.data.toList.length=s.size:=by simp
 unfold readQ
 by_cases h82:82<s.size
 ·rw [if_pos (by omega)]
  exact (qread_long s w (by omega)).mono fun _ _ h=>h
 ·rw [if_neg (by omega)]
  have h82':(s.size:Int)≤82:=by omega
  have hs:s.size≤90000:=by omega
  have hread:∀ W,Calls Tryz.prog 26 #[.string s] W (ReadPost (readL s.data.toList) W):=fun W=>read_any s W hs
  cases hr:readL s.data.toList with
  | none =>
   rw [hr] at hread
   exact (qread_none s w h82' fun W=>hiD (hread W)).mono fun _ _ h=>h
  | some t =>
   obtain ⟨sg,n,d⟩:=t
   obtain ⟨b1,b2,b3⟩:=readL_lt hr (by omega)
   rw [hr] at hread
   have hrd:∀ W,Hid (Calls Tryz.prog 26 #[.string s] W fun e w'=>Below W.heap.size W w'∧∃ x,e=.returned (.tuple #[x,.bool true])∧RatAt w' x (sg&&!(n==0)) n d):=fun W=>hiD (hread W)
   have htx:∀ W x,RatAt W x (sg&&!(n==0)) n d→Below w.heap.size w W→Hid (Calls Tryz.prog 206 #[x] W fun e w'=>e=.returned (.string ⟨(numText (sg&&!(n==0)) n d).toArray⟩)∧Below W.heap.size W w'):=fun W x hx hb =>
    hiD (qtext_any x _ n d 20 W (by omega) b1 b2 b3 hx (htab.below hb))
   have he:=numText_eq (numText (sg&&!(n==0)) n d) s
   by_cases hq:numText (sg&&!(n==0)) n d=s.data.toList
   ·rw [decide_eq_true hq] at he
    simp only [hq,if_true]
    exact (qread_same s _ _ n d w h82' hrd htx he).mono fun _ _ h=>h
   ·rw [decide_eq_false hq] at he
    simp only [hq,if_false]
    exact (qread_other s _ _ n d w h82' hrd htx he).mono fun _ _ h=>h
def isNum (l:List UInt8):Bool:=(readQ l).isSome
theorem valid_any (s:ByteArray) (w:World) (htab:Tab w):Calls Tryz.prog 136 #[.string s] w fun e w'=>e=.returned (.bool (isNum s.data.toList))∧Below w.heap.size w w':=by
 have hr:Hid (Calls Tryz.prog 166 #[.string s] w fun e w'=>Below w.heap.size w w'∧∃ b p n c q m d,e=.returned (.tuple #[.agg #[.bool b,.slice p n c,.slice q m d],.bool (isNum s.data.toList)])):=hiD (by
  refine (qread_any s w htab).mono fun e w' h=>⟨h.1,?_⟩
  have h2:=h.2
  unfold isNum
  cases hq:readQ s.data.toList with
  | none=>rw [hq] at h2;exact ⟨_,_,_,_,_,_,_,h2⟩
  | some t =>
   rw [hq] at h2
   obtain ⟨x,rfl,u,v,rfl,hu,hv,-⟩:=h2
   obtain ⟨p2,n2,k2,rfl⟩:=hu.slice
   obtain ⟨p3,n3,k3,rfl⟩:=hv.slice
   exact ⟨_,_,_,_,_,_,_,rfl⟩)
 clear htab
 generalize isNum s.data.toList=f at hr ⊢
 go_enter Tryz.func136,Tryz.ntmps136
 go_wp2_with fail
 refine hr.out.mono ?_
 rintro e w2 ⟨hb2,b,p,n,c,q,m,d,rfl⟩
 have hbw:=hiD (hb2.trans ((bea w2 (.cells #[.bool b,.slice p n c,.slice q m d] 62)).mono hb2.size))
 clear hb2
 go_wp2_with fail
 go_ret
 exact ⟨rfl,hbw.out⟩
end Go.Proofs.YtlcpcpmlfegejaaGreatDoor
namespace Go.Proofs.YtlcpcpmlfegejaaGreatDoor
open Go.Lib Big
theorem readAbs_pos {l:List UInt8} {n d:Nat} (h:readAbs l=some (n,d)):0<d:=by
 unfold readAbs at h
 split at h
 ·split at h
  ·simp only [Option.some.injEq,Prod.mk.injEq] at h
   obtain ⟨-,rfl⟩:=h
   exact Nat.pow_pos (by omega)
  ·cases h
 ·split at h
  ·split at h
   ·rename_i hd
    rw [Bool.and_eq_true,Bool.and_eq_true] at hd
    simp only [Option.some.injEq,Prod.mk.injEq] at h
    obtain ⟨-,rfl⟩:=h
    have:=hd.2
    simp at this;omega
   ·cases h
  ·split at h
   ·simp only [Option.some.injEq,Prod.mk.injEq] at h
    obtain ⟨-,rfl⟩:=h
    omega
   ·cases h
theorem ratv_num {s:Bool} {a b:Nat} (hb:0<b) (hs:s=true→0<a):decide ((ratv s a b).num<0)=s∧(ratv s a b).num.natAbs=a/Nat.gcd a b∧(ratv s a b).den=b/Nat.gcd a b:=by
 have hg:0<Nat.gcd a b:=Nat.gcd_pos_of_pos_right _ hb
 have e:ratv s a b=mkRat (if s then -(a:Int) else a) b:=by
  rw [Rat.mkRat_eq_div]
  unfold ratv
  cases s<;>simp<;>rfl
 have hn:(mkRat (if s then -(a:Int) else a) b).num=(if s then -(a:Int) else a)/(Nat.gcd a b:Nat):=by
  rw [Rat.num_mkRat,Nat.gcd_comm]
  cases s<;>simp [Nat.ne_of_gt hb]
 have hd:(mkRat (if s then -(a:Int) else a) b).den=b/Nat.gcd a b:=by
  rw [Rat.den_mkRat,Nat.gcd_comm]
  cases s<;>simp [Nat.ne_of_gt hb]
 rw [e,hn,hd]
 refine ⟨?_,?_,rfl⟩
 ·cases s
  ·simp only [Bool.false_eq_true,if_false]
   rw [decide_eq_false]
   have:(0:Int)≤(a:Int)/(Nat.gcd a b:Nat):=Int.ediv_nonneg (by omega) (by omega)
   omega
  ·simp only [if_true]
   rw [decide_eq_true]
   exact Int.ediv_neg_of_neg_of_pos (by have:=hs rfl;omega) (by omega)
 ·cases s
  ·simp only [Bool.false_eq_true,if_false]
   norm_cast
  ·simp only [if_true]
   rw [Int.neg_ediv_of_dvd (by exact_mod_cast Nat.gcd_dvd_left a b),Int.natAbs_neg]
   norm_cast
def txt (q:Rat):List UInt8:=numText (decide (q.num<0)) q.num.natAbs q.den
theorem numText_txt {s:Bool} {a b:Nat} (hb:0<b) (hs:s=true→0<a):numText s a b=txt (ratv s a b):=by
 obtain ⟨h1,h2,h3⟩:=ratv_num hb hs
 unfold txt
 rw [h1,h2,h3]
 have hg:0<Nat.gcd a b:=Nat.gcd_pos_of_pos_right _ hb
 have hc:Nat.gcd (a/Nat.gcd a b) (b/Nat.gcd a b)=1:=Nat.gcd_div_gcd_div_gcd_of_pos_right hb
 unfold numText ratText
 rw [hc,Nat.div_one,Nat.div_one]
def num (l:List UInt8):Option Rat:=(readQ l).map fun t=>ratv t.1 t.2.1 t.2.2
theorem readQ_spec {l:List UInt8} {s:Bool} {n d:Nat} (h:readQ l=some (s,n,d)):0<d∧(s=true→0<n)∧numText s n d=l:=by
 unfold readQ at h
 split at h
 ·cases h
 ·split at h
  ·rename_i s0 n0 d0 hr
   split at h
   ·rename_i ht
    cases h
    refine ⟨?_,by intro h;simp at h;omega,ht⟩
    unfold readL at hr
    rw [Option.map_eq_some_iff] at hr
    obtain ⟨⟨a,b⟩,h1,h2⟩:=hr
    cases h2
    exact readAbs_pos h1
   ·cases h
  ·cases h
theorem txt_num {l:List UInt8} {q:Rat} (h:num l=some q):txt q=l:=by
 unfold num at h
 rw [Option.map_eq_some_iff] at h
 obtain ⟨⟨s,n,d⟩,h1,rfl⟩:=h
 obtain ⟨h2,h3,h4⟩:=readQ_spec h1
 rw [← numText_txt h2 h3];exact h4
def wrote (s:Bool) (n d:Nat):List UInt8:=(if s then [45] else [])++decDigits n++(if d=1 then [] else 47::decDigits d)
theorem txt_eq (q:Rat):txt q=if nDigits q.num.natAbs≤40∧nDigits q.den≤40 then wrote (decide (q.num<0)) q.num.natAbs q.den else []:=by
 unfold txt numText ratText
 have hc:Nat.gcd q.num.natAbs q.den=1:=q.reduced
 rw [hc,Nat.div_one,Nat.div_one]
 split<;>rfl
theorem num_nil:num []=none:=by decide
end Go.Proofs.YtlcpcpmlfegejaaGreatDoor
namespace Go.Proofs.YtlcpcpmlfegejaaGreatDoor
open Go.RowKit Big
open Go.Lib
theorem dec_byte {n:Nat} (h:n<10):(UInt8.ofNat (48+n)).toNat=48+n:=by
 rw [UInt8.toNat_ofNat'];omega
theorem pu_dec (M:Nat) (hM:M≤18446744073709551615) (u:Nat):∀ r,parseUintM M 0 (decDigits u++r)=if u≤M then parseUintM M u r else .range:=by
 induction u using Nat.strongRecOn with
 | _ u ih =>
  intro r
  by_cases h:u<10
  ·rw [decDigits_one h,List.singleton_append,parseUintM,dec_byte h]
   rw [if_pos (by omega),if_neg (by omega)]
   have e:0*10+(48+u-48)=u:=by omega
   rw [e]
   by_cases hu:u≤M
   ·rw [if_neg (by omega),if_pos hu]
   ·rw [if_pos (by omega),if_neg hu]
  ·rw [decDigits,dif_neg h,List.append_assoc,ih (u/10) (by omega),List.singleton_append,parseUintM,dec_byte (Nat.mod_lt _ (by omega))]
   have hd:u/10*10+(48+u%10-48)=u:=by omega
   rw [hd]
   by_cases h1:u/10≤M
   ·rw [if_pos h1,if_pos (by omega)]
    by_cases h2:1844674407370955162≤u/10
    ·rw [if_pos h2,if_neg (by omega)]
    ·rw [if_neg h2]
     by_cases hu:u≤M
     ·rw [if_neg (by omega),if_pos hu]
     ·rw [if_pos (by omega),if_neg hu]
   ·rw [if_neg h1,if_neg (by omega)]
theorem pum_bar (M u:Nat) (r:List UInt8):parseUintM M u (47::r)=parseUintB 8 []:=by
 rw [parseUintM,if_neg (by decide)];rfl
theorem dec_first (u:Nat):∃ c t,decDigits u=c::t∧48≤c.toNat∧c.toNat≤57:=by
 induction u using Nat.strongRecOn with
 | _ u ih =>
  by_cases h:u<10
  ·exact ⟨_,[],decDigits_one h,by rw [dec_byte h];omega,by rw [dec_byte h];omega⟩
  ·obtain ⟨c,t,e,h1,h2⟩:=ih (u/10) (by omega)
   refine ⟨c,t++[UInt8.ofNat (48+u%10)],?_,h1,h2⟩
   rw [decDigits,dif_neg h,e,List.cons_append]
theorem pub_dec {B:Nat} (hM:2^B-1≤18446744073709551615) (u:Nat) (r:List UInt8):parseUintB B (decDigits u++r)=if u≤2^B-1 then parseUintM (2^B-1) u r else .range:=by
 obtain ⟨c,t,e,-,-⟩:=dec_first u
 unfold parseUintB
 rw [if_neg (by rw [e];simp),pu_dec _ hM]
theorem pi_text {B:Nat} (hM:2^B-1≤18446744073709551615) (s:Bool) (u:Nat) (r:List UInt8):parseIntB B ((if s then [45] else [])++decDigits u++r) =
  (if s then signedC (2^(B-1)) else signlessC (2^(B-1))) (if u≤2^B-1 then parseUintM (2^B-1) u r else .range):=by
 cases s
 ·obtain ⟨c,t,e,h1,h2⟩:=dec_first u
  have:=parseIntB_plain B c (t++r) (by omega) (by omega)
  rw [← List.cons_append,← e,pub_dec hM] at this
  exact this
 ·have:=parseIntB_minus B (decDigits u++r)
  rw [pub_dec hM] at this
  exact this
def intT (B:Nat) (l:List UInt8):Option Int:=match num l with
 | none=>none
 | some q=>if q.den=1∧-((2^(B-1):Nat):Int)≤q.num∧q.num<((2^(B-1):Nat):Int) then some q.num else none
theorem num_wrote {l:List UInt8} {q:Rat} (h:num l=some q):l=(if decide (q.num<0) then [45] else [])++decDigits q.num.natAbs++(if q.den=1 then [] else 47::decDigits q.den):=by
 have h1:=txt_num h
 rw [txt_eq] at h1
 split at h1
 ·exact h1.symm
 ·rw [← h1,num_nil] at h;cases h
theorem pi_num {B:Nat} {l:List UInt8} {q:Rat} (hM:2^B-1≤18446744073709551615) (hB:1≤B) (h:num l=some q):match intT B l with
  | some v=>parseIntB B l=.ok v
  | none=>parseIntB B l=parseIntB 64 []∨parseIntB B l=.range:=by
 have hp:2^B=2^(B-1)*2:=by rw [← Nat.pow_succ];congr 1;omega
 have hp0:0<2^(B-1):=Nat.pow_pos (by omega)
 have hl:=num_wrote h
 have ht:=pi_text hM (decide (q.num<0)) q.num.natAbs (if q.den=1 then [] else 47::decDigits q.den)
 rw [← hl] at ht
 rw [ht]
 unfold intT
 rw [h]
 simp only []
 generalize 2^B=C at *
 generalize 2^(B-1)=D at *
 by_cases hd:q.den=1
 ·simp only [hd,if_true,true_and]
  by_cases hs:q.num<0
  ·simp only [hs,decide_true,if_true]
   by_cases hr:q.num.natAbs≤C-1
   ·simp only [hr,if_true,parseUintM,signedC]
    by_cases hc:D<q.num.natAbs
    ·rw [if_neg (by omega)];simp [hc]
    ·rw [if_pos (by omega)];simp only [hc,if_false]
     congr 1;omega
   ·rw [if_neg (by omega)];simp [hr,signedC]
  ·simp only [hs,decide_false,if_false,Bool.false_eq_true]
   by_cases hr:q.num.natAbs≤C-1
   ·simp only [hr,if_true,parseUintM,signlessC]
    by_cases hc:D≤q.num.natAbs
    ·rw [if_neg (by omega)];simp [hc]
    ·rw [if_pos (by omega)];simp only [hc,if_false]
     congr 1;omega
   ·rw [if_neg (by omega)];simp [hr,signlessC]
 ·simp only [hd,if_false,false_and]
  by_cases hr:q.num.natAbs≤C-1
  ·simp only [hr,if_true,pum_bar]
   by_cases hs:q.num<0<;>simp [hs,signedC,signlessC]<;>exact Or.inl rfl
  ·simp only [hr,if_false]
   by_cases hs:q.num<0<;>simp [hs,signedC,signlessC]<;>exact Or.inl rfl
end Go.Proofs.YtlcpcpmlfegejaaGreatDoor
