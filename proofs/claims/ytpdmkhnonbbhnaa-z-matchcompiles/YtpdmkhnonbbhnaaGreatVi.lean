import Derived.Test.YtpdmkhnonbbhnaaGreatMqx
import Derived.RangeFuncNested
import Derived.RangeFuncBound
import Derived.OwnWalkIn
import Derived.TacticsInMore
import Derived.LoopNIn
import Derived.LoopIn
namespace Go.Proofs.YtpdmkhnonbbhnaaGreat
open Go.RowKit Go.Maps Go.Shelf
set_option maxHeartbeats 4000000
set_option maxRecDepth 100000
attribute [local go_sem] Oper.semAt_some
abbrev El:=Nat×Rs
def Ov (x:El):Array Value:= #[.int .i64 x.1,.agg #[.slice x.2.2.1.1 x.2.1.1.length x.2.2.1.2,.int .i64 x.2.1.2.1.1,.string ⟨x.2.1.2.1.2.1.toArray⟩,.int .i64 x.2.1.2.1.2.2,.slice x.2.2.2.1 x.2.1.2.2 x.2.2.2.2]]
def Ua (l:List Rs)(k:Nat):El:=(l.length-1-k,(l[l.length-1-k]?).getD (([],(0,[],0),0),(none,0),(none,0)))
theorem YG (l:List Rs)(i:Nat)(h:i<l.length):Ua l (l.length-1-i)=(i,l[i]):=by
 unfold Ua;have e:l.length-1-(l.length-1-i)=i:=by omega
 rw [e,PR h]
 rfl
def Uz (Bt gw:Nat)(A B:World):Prop:=B.heap[Bt]? =A.heap[Bt]?/\B.heap[gw]? =A.heap[gw]?
theorem Uz.trans {Bt gw:Nat}{A B C:World}(h:Uz Bt gw A B)(k:Uz Bt gw B C):Uz Bt gw A C:=⟨k.1.trans h.1,k.2.trans h.2⟩
theorem Wq (l:List Rs)(i:Nat)(h:i<l.length)(c:Nat)(hc:c<5):(l.flatMap TR)[i*5+c]? =(TR l[i])[c]? :=Oq (k:=5) l (λ_ _=>rfl) i h c hc
theorem UV (ad:Option Addr)(n cap:Nat)(w:World):Calls Tryz.prog 84 #[.slice ad n cap] w λe w'=>e= .returned (.func (.func 98) #[] #[.pointer (some ⟨w.heap.size,0,none⟩)])/\w'=w.alloc (.cells #[.slice ad n cap] 117):=by
 go_enter Tryz.func84,Tryz.ntmps84;go_wp2;go_ret;exact ⟨rfl,rfl⟩
theorem XS (F:Fence)(n:Nat)(EQ:F.fn 98)(pO:F.round=none)(hn:1<=n)(lp Bt gw cap:Nat)(l:List Rs)(hl:l.length<=100000)(J:Nat->World->Prop)
  (hY:∀k W,k<l.length->J k W->YieldAt F (n-1) Tryz.prog lp (Ov (Ua l k)) W λe W'=>e= .returned (.bool true)/\J (k+1) W'/\Uz Bt gw W W')
  (W:World) (hB:W.cell? ⟨Bt,0,none⟩=some (.slice (some ⟨gw,0,none⟩) l.length cap)) (hc:∀i c,i<l.length->c<5->W.cell? ⟨gw,i*5+c,none⟩=(l.flatMap TR)[i*5+c]?) (h0:J 0 W):
  CallsIn F n Tryz.prog 98 #[.func (.yield lp) #[] #[],.pointer (some ⟨Bt,0,none⟩)] W λe W'=>(∃v,e= .returned v)/\J l.length W':=by
 have HC:Hid (∀wr,Uz Bt gw W wr->wr.cell? ⟨Bt,0,none⟩=some (.slice (some ⟨gw,0,none⟩) l.length cap)/\∀i (h:i<l.length),wr.cell? ⟨gw,i*5,none⟩=some (.slice l[i].2.1.1 l[i].1.1.length l[i].2.1.2)/\wr.cell? ⟨gw,i*5+1,none⟩=some (.int .i64 l[i].1.2.1.1)/\wr.cell? ⟨gw,i*5+2,none⟩=some (.string ⟨l[i].1.2.1.2.1.toArray⟩)/\wr.cell? ⟨gw,i*5+3,none⟩=some (.int .i64 l[i].1.2.1.2.2)/\wr.cell? ⟨gw,i*5+4,none⟩=some (.slice l[i].2.2.1 l[i].1.2.2 l[i].2.2.2)):=λwr hk=>by
  have e:∀(p:Addr),p.block=Bt\/p.block=gw->wr.cell? p=W.cell? p:=λp hp=>by
   unfold World.cell?;rcases hp with hp | hp
   ·rw [hp,hk.1]
   rw [hp,hk.2]
  refine ⟨(e ⟨Bt,0,none⟩ (.inl rfl)).trans hB,λi h=> ?_⟩;have f:∀c,c<5->wr.cell? ⟨gw,i*5+c,none⟩=(TR l[i])[c]? :=λc h5=>by
   rw [e ⟨gw,i*5+c,none⟩ (.inr rfl),hc i c h h5,Wq l i h c h5]
  exact ⟨f 0 (by omega),f 1 (by omega),f 2 (by omega),f 3 (by omega),f 4 (by omega)⟩
 clear hc;have Ag:IntKind.i64.wrap ((l.length:Int)-1)=(l.length:Int)-1:=by rw [RV];omega
 refine callsIn_of_wp Tryz.func98 rfl EQ ?_ pO;simp only [Tryz.ntmps98,Zw,Rj,YO,Nat.reduceAdd,Nat.reduceSub,yA,KE,F8,Md,VP,TY]
 gi_wp2
 clear hB
 gi_loopw [3] (λiv wr=>((∃i:Nat,i<l.length/\iv= .int .i64 i/\J (l.length-1-i) wr)\/(iv= .int .i64 (-1)/\J l.length wr))/\Uz Bt gw W wr) (λiv _=>(intOf iv+1).toNat)
 case atStart=>
  refine ⟨?_,rfl,rfl⟩;by_cases h:l.length=0
  ·right;refine ⟨by rw [h];rfl,?_⟩;rw [h];exact h0
  left;refine ⟨l.length-1,by omega,by congr 1;omega,?_⟩;rw [N2];exact h0
 obtain ⟨⟨i,hlt,rfl,wF⟩ | ⟨rfl,wF⟩,ir⟩:=hrel
 ·have If:=hY (l.length-1-i) wr (by omega) wF;rw [YG l i hlt] at If;obtain ⟨fn,tmps,assign,body,hy,hR⟩:=If;unfold Ov at hy;obtain ⟨c0,aT⟩:=HC.out wr ir;obtain ⟨q0,q1,q2,q3,q4⟩:=aT i hlt;have i1:(0:Int)<=(i:Int):=by omega
  have i2:(i:Int)<(l.length:Int):=by omega
  have mI:decide ((0:Int)<=(i:Int))=true:=by simp
  have ao7:IntKind.i64.wrap ((i:Int)-1)=(i:Int)-1:=by rw [RV];omega
  have ca6:=P4 ir;have HL:=Qh hlt hl;clear aT hY ir Ag wF h0;generalize l[i]=x at *
  gi_wp2
  refine hR.mono ?_;rintro e W3 ⟨rfl,hJ3,hk3⟩
  gi_wp2
  go_roundw
  case rel=>
   refine ⟨?_,ca6.trans hk3⟩;have hL:=HL.out;by_cases h:i=0
   ·right;refine ⟨by rw [h];rfl,?_⟩;have e:l.length-1-i+1=l.length:=by omega
    rw [e] at hJ3;exact hJ3
   left;refine ⟨i-1,by omega,by congr 1;omega,?_⟩;have e:l.length-1-(i-1)=l.length-1-i+1:=by omega
   rw [e];exact hJ3
  case measure=>simp [intOf]<;>omega
 gi_wp2
 go_end0
 exact ⟨⟨_,rfl⟩,wF⟩
theorem VS (F:Fence)(n:Nat)(EQ:F.fn 98)(pO:F.round=none)(lp Bt:Nat)(ad:Option Addr)(cap:Nat)(J:Nat->World->Prop)(W:World)(hB:W.cell? ⟨Bt,0,none⟩=some (.slice ad 0 cap))(h0:J 0 W):
  CallsIn F n Tryz.prog 98 #[.func (.yield lp) #[] #[],.pointer (some ⟨Bt,0,none⟩)] W λe W'=>(∃v,e= .returned v)/\J 0 W':=by
 have Ag:IntKind.i64.wrap ((0:Int)-1)= -1:=by rw [RV];omega
 refine callsIn_of_wp Tryz.func98 rfl EQ ?_ pO;simp only [Tryz.ntmps98,Zw,Rj,YO,Nat.reduceAdd,Nat.reduceSub,yA,KE,F8,Md,VP,TY]
 gi_wp2
 gi_loopw [3] (λi wr=>i= .int .i64 (-1)/\J 0 wr) (λ_ _=>0)
 case atStart=>exact ⟨rfl,h0⟩
 obtain ⟨rfl,wF⟩:=hrel
 gi_wp2
 go_end0
 exact ⟨⟨_,rfl⟩,wF⟩
theorem at1 {F:Fence}{n:Nat}{P:Program}{g:Operand}{ps:Array Tmp}{assign body:Code}{Q:Exit->Act->World->Prop}{a:Act}{w:World}
  (pO:F.round=none) (h1:1<=n) {gf:Nat}{lb:Array Value}(hg:a.eval g= .func (.func gf) #[] lb) (bk5:F.fn gf) (eg:∀args w,(callFunc gf args).run P w= .ok (.enter gf args) w)
  (N:Nat) (ru:Nat->Array Value) (hps:∀x,(ru x).size=ps.size) (Kp:World->World->Prop) (ER:∀{A B C:World},Kp A B->Kp B C->Kp A C) (hK:∀(A B:World) (row:Option Nat),w.heap.size<=A.heap.size->A.grownBy B row->(∀r,row=some r->w.heap.size<=r)->Kp A B) (I:Nat->World->Prop)
  (hI:∀(k:Nat) (A B:World) (row:Option Nat),I k A->A.grownBy B row->(∀r,row=some r->w.heap.size<=r/\∃o,A.heap[r]? =some o/\o.isCells=false)->I k B)
  (cc7:∀(l:Nat) (J:Nat->World->Prop) (W:World),Below w.heap.size w W->(∀k W1,k<N->J k W1->YieldAt F (n-1-1) P l (ru k) W1 λe W'=>e= .returned (.bool true)/\J (k+1) W'/\Kp W1 W')->J 0 W->CallsIn F (n-1) P gf (#[.func (.yield l) #[] #[]]++lb) W λe W'=>(∃v,e= .returned v)/\J N W')
  (h0:I 0 w) (ob:Nat->Obj) (a₁:Nat->Nat->Act)
  (cj4:∀(l k:Nat) (W:World) (K:Act->World->Prop),K (a₁ k W.heap.size) (W.alloc (ob k))->assign.wpIn (F.inRound l) (n-1-1) P (Exit.then K (λ_ _ _=>False)) {tmps:=(ps.zip (ru k)).foldl (λt (p,v)=>t.setIfInBounds p v) a.tmps,defers:=[]} W)
  (bt3:∀(l k b:Nat) (W:World),k<N->I k W->w.heap.size<=b->W.heap[b]? =some (ob k)->body.wpIn (F.inRound l) (n-1-1) P (λe _ W'=>e= .normal/\KeepsFrom w.heap.size W W'/\Kp W W'/\I (k+1) W') (a₁ k b) W)
  (bs6:∀(D:Nat) (W:World),w.heap.size<=D->I N W->W.heap[D]? =some (.deferred (some []))->Q .normal {a with defers:={target:= .collected D,args:= #[]}::a.defers} W):
  (Code.rangeFunc g ps assign body).wpIn F n P Q a w:=by
 refine wpIn_rangeFunc ?_;intro fn br4;rw [pO];obtain ⟨rc,fF⟩:∃rc:LoopState->Option Code->Loop,rc=λst pe=>{state:=st,pending:=pe,fn,tmps:=a.tmps,params:=ps,assign,body,defers:=w.heap.size}:=⟨_,rfl⟩;obtain ⟨V,hV⟩:∃V,V=(w.alloc (.deferred (some []))).alloc (.loop (rc .ready none)):=⟨_,rfl⟩;have cm2:V.heap[w.heap.size+1]? =some (.loop (rc .ready none)):=by
  have:=World.alloc_heap_new (w.alloc (.deferred (some []))) (.loop (rc .ready none));rw [Sb] at this;rw [hV];exact this
 have bm3:V.heap[w.heap.size]? =some (.deferred (some [])):=by
  rw [hV];exact (Qq _ _ _ (by simp)).trans (World.alloc_heap_new w _)
 have eQ:Below w.heap.size w V:=by
  rw [hV];exact ((Pb _ w).alloc (P6 _) _).alloc (by simp) _
 have bg2:w.grownBy V none:=⟨eQ.os,eQ.tape,eQ.output,eQ.size,λk hk _=>eQ.block k hk⟩;refine ⟨w.heap.size+1,[{target:= .collected w.heap.size,args:= #[]}],V,{target:= .fn (.func gf) lb,args:= #[.func (.yield (w.heap.size+1)) #[] #[]]},V,gf, #[.func (.yield (w.heap.size+1)) #[] #[]]++lb,V,?_,?_,?_,?_,λ_=>h1,?_⟩
 ·rw [hV,fF];exact run_enterLoop_outer _ _ _ _ _
 ·simp only [resolve,hg];simp [go_sem]
 ·intro f' Ig;simp [Target.leads] at Ig;subst Ig;exact bk5
 ·simp [invoke,go_sem,eg]
 have ry:∀(W:World) (o:Obj),W.grownBy (W.putObj (w.heap.size+1) o) (some (w.heap.size+1)):=λW o=>grownBy_putObj' W (w.heap.size+1) o;have oM:∀(W:World) (r:Loop),W.heap[w.heap.size+1]? =some (.loop r)->∀x,some (w.heap.size+1)=some x->w.heap.size<=x/\∃o,W.heap[x]? =some o/\o.isCells=false:=λW r h x e=>by
  injection e with e;subst e;exact ⟨by omega,_,h,rfl⟩
 refine (cc7 (w.heap.size+1) (λk W=>I k W/\W.heap[w.heap.size+1]? =some (.loop (rc .ready none))/\W.heap[w.heap.size]? =some (.deferred (some []))) V eQ ?_ ⟨hI 0 _ _ none h0 bg2 (λr e=>by cases e),cm2,bm3⟩).mono ?_
 ·rintro k W hk ⟨hi,hl,hd⟩;have hsz:w.heap.size+1<W.heap.size:=(Oa.1 hl).1;have hy:=run_yield (P:=P) (args:=ru k) hl (by rw [fF];exact hps k);rw [fF] at hy;have Ih:W.grownBy (W.alloc (ob k)) none:=World.grownBy_alloc W _ none;have Ii:(W.alloc (ob k)).heap[w.heap.size+1]? =some (.loop (rc .ready none)):=(Qq _ _ _ hsz).trans hl;have ck5:(W.alloc (ob k)).heap[w.heap.size]? =some (.deferred (some [])):=(Qq _ _ _ (by omega)).trans hd;have bm5:=hI k _ _ none hi Ih (λr e=>by cases e);refine ⟨fn,_,assign,body,hy,roundIn_of_wpIn br4 (cj4 _ k W _ ⟨_,run_beginRound Ii (by rw [fF]),?_⟩)⟩;obtain ⟨X,hX⟩:∃X,X=(W.alloc (ob k)).putObj (w.heap.size+1) (.loop {rc .ready none with state:= .busy}):=⟨_,rfl⟩;have cm4:X.heap[w.heap.size+1]? =some (.loop {rc .ready none with state:= .busy}):=by
   rw [hX];exact World.putObj_heap_same (by simp;omega)
  have bx6:X.heap[w.heap.size]? =some (.deferred (some [])):=by
   rw [hX];exact (World.putObj_heap_other (by omega)).trans ck5
  have be2:X.heap[W.heap.size]? =some (ob k):=by
   rw [hX];exact (World.putObj_heap_other (by omega)).trans (World.alloc_heap_new W _)
  have Ij:(W.alloc (ob k)).grownBy X (some (w.heap.size+1)):=by rw [hX];exact ry _ _
  have cc4:=hI k _ _ _ bm5 Ij (oM _ _ Ii);have bz7:Kp W X:=ER (hK _ _ none (by omega) Ih (λr e=>by cases e)) (hK _ _ _ (by simp;omega) Ij (λr e=>by cases e;omega));rw [<-hX];refine wpIn_mono (bt3 _ k W.heap.size X hk cc4 (by omega) be2) ?_;rintro e a3 W3 ⟨rfl,hk3,hp3,hi3⟩;have mB:=hk3.same _ _ (by omega) cm4 rfl;have Dt:=hk3.same _ _ (P6 _) bx6 rfl;have mx:w.heap.size+1<W3.heap.size:=(Oa.1 mB).1;have hr:=run_endRound (P:=P) none mB;refine ⟨_,_,hr,rfl,⟨hI _ _ _ _ hi3 (ry _ _) (oM _ _ mB),?_,?_⟩,ER bz7 (ER hp3 (hK _ _ _ (by omega) (ry _ _) (λr e=>by cases e;omega)))⟩
  ·rw [World.putObj_heap_same mx,fF]
   rfl
  exact (World.putObj_heap_other (by omega)).trans Dt
 rintro e W2 ⟨⟨v,rfl⟩,hi,hl,hd⟩;refine ⟨none,_,by have:=run_endLoop (P:=P) hl (by rw [fF];simp);rw [fF] at this;exact this,bs6 _ _ (P6 _) (hI _ _ _ _ hi (ry _ _) (oM _ _ hl)) ((World.putObj_heap_other (by omega)).trans hd)⟩
