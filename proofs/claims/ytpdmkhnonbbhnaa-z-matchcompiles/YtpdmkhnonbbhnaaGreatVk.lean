import Derived.Test.YtpdmkhnonbbhnaaGreatMqx
import Derived.Test.YtpdmkhnonbbhnaaGreatVi
import Derived.Shelf.RegionOpen
namespace Go.Proofs.YtpdmkhnonbbhnaaGreat
open Go.RowKit Go.Maps Go.Shelf
set_option maxHeartbeats 8000000
set_option maxRecDepth 10000
variable {w W:World}{lo n k:Nat}{l:List Rs}
attribute [local go_sem] Oper.semAt_some
theorem Mi.grown {Lb:Nat}{B:Nat}{W':World}{row:Option Nat}(h:Mi w lo Lb n l k W)(hB:lo<=B)(hW:lo<=W.heap.size)(hg:W.grownBy W' row)(hr:∀r,row=some r->B<=r/\∃o,W.heap[r]? =some o/\o.isCells=false):Mi w lo Lb n l k W':=by
 have hb:∀(y:Nat) (c:Array Value) (t:TypeId) (f:Nat×Nat),W.heap[y]? =some (.cells c t f)->W'.heap[y]? =W.heap[y]? :=λy c t f hy=>hg.block y (PV hy) λe=>by
  obtain ⟨_,o,h1,h2⟩:=hr y e.symm;rw [hy] at h1;obtain rfl:=Qs h1;cases h2
 have hG:∀{B cnt:Nat}{st:List Rs}{p:List Nat},QK W B cnt st p->QK W' B cnt st p:=λhq=>by
  obtain ⟨cur,h1,h2⟩:=hq;exact ⟨cur,(hb _ _ _ _ h1).trans h1,h2⟩
 refine ⟨h.below.grown hg hW (λr e=>by have:=(hr r e).1;omega),hG h.root,λx hx B hB=>hG (h.done x hx B hB),λx hx B hB=> ?_⟩;obtain ⟨cur,h1,h2⟩:=h.todo x hx B hB;exact ⟨cur,(hb _ _ _ _ h1).trans h1,h2⟩
def Ob (x:Rs):Array Value:= #[.slice x.2.1.1 x.1.1.length x.2.1.2,.int .i64 x.1.2.1.1,.string ⟨x.1.2.1.2.1.toArray⟩,.int .i64 x.1.2.1.2.2,.slice x.2.2.1 x.1.2.2 x.2.2.2]
structure Ik (w W:World)(lo n:Nat)(l:List Rs)(k:Nat)(W':World):Prop where
 mi:Mi w lo w.heap.size n l k W'
 box:W'.heap[w.heap.size+1]? =some (.cells #[.slice (some ⟨w.heap.size,0,none⟩) n n] 31 (0,0))
 size:W.heap.size<=W'.heap.size
theorem Ik.grown {A B:World}{row:Option Nat}(iR:lo<=W.heap.size)(h:Ik w W lo n l k A)(hg:A.grownBy B row)(hr:∀r,row=some r->W.heap.size<=r/\∃o,A.heap[r]? =some o/\o.isCells=false):Ik w W lo n l k B:=by
 refine ⟨h.mi.grown iR (PZ iR h.size) hg hr,?_,PZ h.size hg.size⟩;rw [hg.block _ (PV h.box) λe=> ?_]
 ·exact h.box
 obtain ⟨_,o,h1,h2⟩:=hr _ e.symm;rw [h.box] at h1;obtain rfl:=Qs h1;cases h2
def UP (lo n:Nat)(l:List Rs)(w:World)(r:Ending)(w':World):Prop:=∃Lb,r= .returned (.slice (some ⟨Lb,0,none⟩) n n)/\w.heap.size<=Lb/\Mi w lo Lb n l l.length w'/\w.heap.size<=w'.heap.size
theorem au1 {S:Nat->Prop}{v:Value}(n:Nat)(hn:n<=1000)(hS:∀x,S x->x<lo)(iR:lo<=w.heap.size)(h:WayAt w S lo v l)(hl:l.length<=100000)(oO:PD n (l.map (·.1))):
  Calls Tryz.prog 60 #[.int .i64 n,v] w (UP lo n l w):=by
 have CW:=Me w n hn;obtain ⟨ad,cap,rfl⟩:∃ad cap,v= .slice ad l.length cap:=by
  obtain ⟨_,⟨h1,h2⟩ | ⟨g,cap,cur,h1,_⟩⟩:=h.own
  ·exact ⟨none,0,by rw [h1,h2]⟩
  exact ⟨_,cap,h1⟩
 have HX:Hid (∀w1,Below w.heap.size w w1->w1.heap.size=w.heap.size+1->S5 w1 w.heap.size n->∃W,W=(w1.alloc (.cells #[.slice (some ⟨w.heap.size,0,none⟩) n n] 31)).alloc (.cells #[.slice ad l.length cap] 117)/\W.heap.size=w.heap.size+3/\Below w.heap.size w W/\W.heap[w.heap.size+1]? =some (.cells #[.slice (some ⟨w.heap.size,0,none⟩) n n] 31 (0,0))/\W.heap[w.heap.size+1+1]? =some (.cells #[.slice ad l.length cap] 117 (0,0))/\Mi w lo w.heap.size n l 0 W):=λw1 hb1 bH iu=>by
  have fX:Below w.heap.size w1 (w1.alloc (.cells #[.slice (some ⟨w.heap.size,0,none⟩) n n] 31)):=(Pb _ _).alloc (by omega) _;have n9:Below w.heap.size w1 ((w1.alloc (.cells #[.slice (some ⟨w.heap.size,0,none⟩) n n] 31)).alloc (.cells #[.slice ad l.length cap] 117)):=fX.alloc (by simp;omega) _;have cd6:∀y,y<w1.heap.size->((w1.alloc (.cells #[.slice (some ⟨w.heap.size,0,none⟩) n n] 31)).alloc (.cells #[.slice ad l.length cap] 117)).heap[y]? =w1.heap[y]? :=λy hy=>by
   rw [Qq _ _ _ (by simp;omega),Qq _ _ _ hy]
  have az:=hb1.trans n9;refine ⟨_,rfl,by simp [bH],az,?_,?_,az.mono iR,?_,λx hx=>by simp at hx,λx hx B hB=> ?_⟩
  ·rw [Qq _ _ _ (by simp [bH])];have:=PF w1 (.cells #[.slice (some ⟨w.heap.size,0,none⟩) n n] 31)
   rwa [bH] at this
  ·have:=PF (w1.alloc (.cells #[.slice (some ⟨w.heap.size,0,none⟩) n n] 31)) (.cells #[.slice ad l.length cap] 117);rw [Sb,bH] at this;exact this
  ·have:l.drop (l.length-0)=[]:=by simp
   rw [this];exact QK.of_wild (iu.on (cd6 _ (by omega))) λi=>rfl
  have Ak:=Sa hx;rcases h.args x Ak with ⟨e,_⟩ | ⟨B',e,_,_,h4,h5,_⟩
  ·rw [e] at hB;cases hB
  rw [e] at hB;injection hB with hB;injection hB with hB;subst hB;exact h5.on (az.block _ h4)
 have ux:Mw w lo w.heap.size n l:=⟨oO,λx hx=>(h.args x hx).imp_right λ⟨B,h1,h2,h3,h4,_⟩=>⟨B,h1,h2,h3,h4⟩,h.apart,P6 _,iR⟩;have wG:Hid (Mw w lo w.heap.size n l):=ux;have jV:=Ro h hS iR;clear ux h hS;refine (callsIn_wide (n:=6)).1 ?_;have f57:Fence.wide.fn 83:=trivial;have am3:Fence.wide.fn 84:=trivial;refine callsIn_of_wp_marks Tryz.func60 rfl trivial ?_ rfl;simp only [Tryz.ntmps60,Zw,Rj,YO,Nat.reduceAdd,Nat.reduceSub,yA,KE,F8,Md,VP,TY]
 gi_wp2_with (first
  | (gi_at_call 83;refine (callsIn_wide.2 CW).mono ?_;rintro e' w1 ⟨rfl,hb1,bH,iu⟩;obtain ⟨W,hW,aO,an,EV,EW,EX⟩:=HX.out w1 hb1 bH iu)
  | (gi_at_call 84;refine (callsIn_wide.2 (UV ad l.length cap _)).mono ?_;rintro e' w2 ⟨rfl,rfl⟩))
 rw [<-hW];obtain ⟨gw,mt,dh,fK⟩:∃gw,(l=[]\/ad=some ⟨gw,0,none⟩)/\gw<w.heap.size+1/\(l≠[]->gw<w.heap.size/\(∀i c,i<l.length->c<5->W.cell? ⟨gw,i*5+c,none⟩=(l.flatMap TR)[i*5+c]?)/\∀x∈l,x.2.2.1≠some ⟨gw,0,none⟩):=by
  by_cases e:l=[]
  ·exact ⟨w.heap.size,.inl e,by omega,λh=>absurd e h⟩
  have ho:=jV.out.1.own;obtain ⟨g,rfl⟩:∃g,ad=some ⟨g,0,none⟩:=by
   obtain ⟨_,⟨_,h2⟩ | ⟨g,cap',cur,h1,_⟩⟩:=ho
   ·exact absurd (Yd h2) e
   injection h1 with h1;exact ⟨g,h1⟩
  have hlt:=(ho.lt g rfl).2;refine ⟨g,.inr rfl,by omega,λ_=>⟨hlt,λi c hi hc=> ?_,λx hx e2=> ?_⟩⟩
  ·rw [<-ho.cellAt (i*5+c) (by omega)];exact an.cell (p:=⟨g,i*5+c,none⟩) hlt
  rcases jV.out.1.args x hx with ⟨e3,_⟩ | ⟨B,e3,_,_,_,_,h6⟩
  ·rw [e3] at e2;cases e2
  rw [e3] at e2;injection e2 with e2;injection e2 with e2;subst e2;exact h6 rfl
 have EY:Hid (l≠[]->gw<w.heap.size/\(∀i c,i<l.length->c<5->W.cell? ⟨gw,i*5+c,none⟩=(l.flatMap TR)[i*5+c]?)/\∀x∈l,x.2.2.1≠some ⟨gw,0,none⟩):=fK;have Al:=Ro aO an iR;clear hW fK CW HX hb1 bH iu;refine at1 rfl (by omega) (gf:=98) (lb:= #[.pointer (some ⟨w.heap.size+1+1,0,none⟩)]) rfl trivial (enters_of Tryz.func98 (by kernel_rfl) rfl) l.length (λk=>Ov (Ua l k)) (λ_=>rfl) (Uz (w.heap.size+1+1) gw) (λh k=>h.trans k)
  (λA B row hA hg hr=>⟨hg.block _ (by omega) (λe=>by have:=hr _ e.symm;omega),hg.block _ (by omega) (λe=>by have:=hr _ e.symm;omega)⟩) (Ik w W lo n l) (λk A B row h hg hr=>Ik.grown (by omega) h hg hr) ?seq ⟨EX,EV,P6 _⟩ (λk=> .cells (Ob (Ua l k).2) 150 (0,0))
  (λk b=>{tmps:= #[.int .i64 n,.slice ad l.length cap,undef,undef,.slice none 0 0,.pointer (some ⟨w.heap.size+1,0,none⟩),undef,.pointer (some ⟨b,0,none⟩),undef,undef,undef,.int .i64 n,.slice (some ⟨w.heap.size,0,none⟩) n n,.slice ad l.length cap,.func (.func 98) #[] #[.pointer (some ⟨w.heap.size+1+1,0,none⟩)],.int .i64 (Ua l k).1,.agg (Ob (Ua l k).2),undef,undef,undef,undef,undef,undef,undef,undef,undef,undef,undef,undef,undef,undef,undef,undef,undef,undef,undef,undef,undef,undef,undef,undef,undef,undef],defers:=[]}) ?assign ?body ?done
 case seq=>
  intro lp J W1 hb hY h0;have er:W1.cell? ⟨w.heap.size+1+1,0,none⟩=some (.slice ad l.length cap):=P0 ((hb.block _ (by omega)).trans EW) rfl;by_cases e:l=[]
  ·subst e;exact VS Fence.wide (6-1) trivial rfl lp _ ad cap J W1 er h0
  rcases mt with h | rfl
  ·exact absurd h e
  have hq:=EY.out e;exact XS Fence.wide (6-1) trivial rfl (by omega) lp _ gw cap l hl J hY W1 er (λi c hi hc=>(hb.cell (p:=⟨gw,i*5+c,none⟩) (by show gw<_;omega)).trans (hq.2.1 i c hi hc)) h0
 case assign=>
  intro lp k W1 K hK;unfold Ov;generalize (Ua l k).1=ix at *
  generalize (Ua l k).2=x at *
  unfold Ob at hK
  gi_wp2
  exact hK
 case body=>
  intro lp k b W1 hk hi eN Am;have hx:(Ua l k).2=l[l.length-1-k]:=by
   unfold Ua;rw [PR (by omega)]
   rfl
  have iX:(Ua l k).2∈l:=by rw [hx];exact Px _
  generalize (Ua l k).1=ix at *
  generalize (Ua l k).2=x at *
  have hW:=wG.out.suf (l.length-(k+1));rw [LW l k hk,<-hx] at hW;obtain ⟨_,am,bo,hr,_⟩:=hW;have cT:0<x.1.1.length:=Tk.2 am;have hp:=jV.out.1.path x iX;have lG:Hid (∀W2,Below lo w W2->Pv W2 S (.slice x.2.1.1 x.1.1.length x.2.1.2) x.1.1):=λW2 hb=>hp.on (OZ.of hb jV.out.2.1);obtain ⟨pg,po,ut,jh,wH⟩:∃pg po,x.2.1.1=some ⟨pg,po,none⟩/\x.1.1.length<=x.2.1.2/\∀W2,Below lo w W2->∀j (h:j<x.1.1.length),W2.cell? ⟨pg,po+j,none⟩=some (.int .i64 x.1.1[j]):=by
   rcases hp with ⟨h0,_⟩ | ⟨g,o,c,h1,_,h3,_⟩
   ·exact absurd h0 am
   injection h1 with h1 _ am2;refine ⟨g,o,h1,by omega,λW2 hb j h=> ?_⟩;rcases lG.out W2 hb with ⟨h0,_⟩ | ⟨g',o',c',mG,_,_,wa⟩
   ·exact absurd h0 am
   injection mG with mG _ _;rw [h1] at mG;injection mG with mG;injection mG with e1 e2;subst e1 e2;have:=(wa j h).2;rw [R4] at this;exact this
  have bo:x.1.1.length<=((l.drop (l.length-k)).map (·.1)).length+1:=bo;have hr:RJ n ((l.drop (l.length-k)).map (·.1)) x.1.1:=hr;have aA:x.1.1.length<=100001:=by
   have:((l.drop (l.length-k)).map (·.1)).length<=l.length:=by simp
   omega
  have mL:x.1.1[0]<n:=by
   rcases hr 0 cT with ⟨_,h⟩ | ⟨h,_⟩
   ·exact h
   omega
  obtain ⟨m,hm⟩:∃m,m+1=x.1.1.length:=⟨x.1.1.length-1,by omega⟩;obtain ⟨bk,jL⟩:∃bk:Nat->Nat,bk=λj=>QZ (l.drop (l.length-k)) w.heap.size (x.1.1.take j):=⟨_,rfl⟩;obtain ⟨pv,hpv⟩:∃pv:Nat->Nat,∀j (h:j<x.1.1.length),x.1.1[j]=pv j:=⟨λj=>(x.1.1[j]?).getD 0,λj h=>by simp [h]⟩;have em:Hid (∀W2,Ik w W lo n l k W2->∀j,j+1<m+1->∃cnt,W2.cell? ⟨bk j,pv j*4+3,none⟩=some (.slice (some ⟨bk (j+1),0,none⟩) cnt cnt)/\pv (j+1)<cnt):=λW2 h2 j hj=>by
   obtain ⟨cnt,h1,h3⟩:=h2.mi.next wG.out hr j (by omega)
   rw [hpv j (by omega)] at h1;rw [hpv (j+1) (by omega)] at h3;rw [jL];exact ⟨cnt,h1,h3⟩
  have Ao:Hid (∀W2,Ik w W lo n l k W2->(∀c,c<4->∃v,W2.cell? ⟨bk m,pv m*4+c,none⟩=some v/\W2.frozen? ⟨bk m,pv m*4+c,none⟩=false)/\KeepsFrom W.heap.size W2 (Rr W2 (bk m) (pv m) (.int .i64 x.1.2.1.1) (.string ⟨x.1.2.1.2.1.toArray⟩) (.int .i64 x.1.2.1.2.2) (.slice x.2.2.1 x.1.2.2 x.2.2.2))/\Uz (w.heap.size+1+1) gw W2 (Rr W2 (bk m) (pv m) (.int .i64 x.1.2.1.1) (.string ⟨x.1.2.1.2.1.toArray⟩) (.int .i64 x.1.2.1.2.2) (.slice x.2.2.1 x.1.2.2 x.2.2.2))/\Ik w W lo n l (k+1) (Rr W2 (bk m) (pv m) (.int .i64 x.1.2.1.1) (.string ⟨x.1.2.1.2.1.toArray⟩) (.int .i64 x.1.2.1.2.2) (.slice x.2.2.1 x.1.2.2 x.2.2.2))):=λW2 h2=>by
   obtain ⟨h1,h3,h4,h5⟩:=h2.mi.put wG.out hk hx rfl m hm (by omega);have e2:QZ (l.drop (l.length-k)) w.heap.size (x.1.1.take m)=bk m:=by rw [jL]
   rw [hpv m (by omega),e2] at h5;have mG:∀c,c<4->∃v,W2.cell? ⟨bk m,pv m*4+c,none⟩=some v/\W2.frozen? ⟨bk m,pv m*4+c,none⟩=false:=λc hc=>by
    obtain ⟨v,q1,q2⟩:=h1 c hc;rw [hpv m (by omega),e2] at q1 q2;exact ⟨v,q1,q2⟩
   rw [e2] at h4;have cn4:l≠[]:=λe=>by rw [e] at hk;simp at hk
   have bk3:=EY.out cn4;have hb1:bk m<w.heap.size+1/\bk m≠gw:=by
    rcases h4 with e | ⟨y,hy,e⟩
    ·exact ⟨by omega,by omega⟩
    refine ⟨?_,λq=>bk3.2.2 y hy (by rw [<-q];exact e)⟩;rcases wG.out.args y hy with ⟨e3,_⟩ | ⟨B,e3,_,_,e4⟩
    ·rw [e3] at e;cases e
    rw [e3] at e;injection e with e;injection e with e;omega
   have hcells:∃c t f,W2.heap[bk m]? =some (Obj.cells c t f):=by
    obtain ⟨v,q1,_⟩:=mG 0 (by omega);unfold World.cell? at q1;cases hq:W2.heap[bk m]? with
    | none=>simp [hq] at q1
    | some o=>
     cases o with
     | cells c t f=>exact ⟨c,t,f,rfl⟩
     | _=>simp [hq] at q1
   refine ⟨mG,⟨by rw [L5];exact P6 _,λy o hy ho ak2=> ?_⟩,⟨XJ _ _ _ _ _ _ _ _ (by omega),XJ _ _ _ _ _ _ _ _ (λq=>hb1.2 q.symm)⟩,h5,?_,by rw [L5];exact h2.size⟩
   ·rw [XJ _ _ _ _ _ _ _ _ (by have:=Al.out.1;omega)];exact ho
   rw [XJ _ _ _ _ _ _ _ _ (by omega)];exact h2.box
  have jJ:=wH W1 hi.mi.below 0 cT;rw [TO,hpv 0 cT] at jJ;rw [hpv 0 cT] at mL;have by5:Hid (∀W2,Ik w W lo n l k W2->∀j,j<m+1->W2.cell? ⟨pg,po+j,none⟩=some (.int .i64 (pv j))):=λW2 h2 j hj=>by
   rw [<-hpv j (by omega)];exact wH W2 h2.mi.below j (by omega)
  unfold Ob at Am;unfold Ob;rw [ut] at Am⊢;have b0:=P0 (i:=0) Am rfl;have c0:=P0 (i:=0) hi.box rfl;have HI:Hid (Ik w W lo n l k W1):=hi;have Ap:bk 0=w.heap.size:=by rw [jL];rfl
  clear hi wH hpv jL hr hp bo lG iX hx am wG jV mt EX EV EW an oO ut aO;generalize x.1.1.length=pl at *
  subst hm;generalize x.1.2.1.1=kd at *
  generalize x.1.2.1.2.1=nm at *
  generalize x.1.2.1.2.2=nu at *
  generalize x.2.2.1=aa at *
  generalize x.1.2.2=cn at *
  generalize x.2.2.2=cp at *
  generalize x.2.1.2=pc at *
  have Iq:Hid (W1.heap[b]? =some (.cells #[.slice (some ⟨pg,po,none⟩) (m+1) pc,.int .i64 kd,.string ⟨nm.toArray⟩,.int .i64 nu,.slice aa cn cp] 150 (0,0))):=Am;clear Am;dsimp only;have i1:(0:Int)<=(pv 0:Int):=by omega
  have i2:(pv 0:Int)<(n:Int):=by omega
  have mixed:Tryz.prog.follows .mixedOrders=true:=by kernel_rfl
  gi_wp2
  gi_region_o
  all_goals
   have lj:Hid (Ik w W lo n l k W1.drew):=Ik.grown (row:=none) (by have:=Al.out;omega) HI.out ⟨rfl,rfl,rfl,P6 _,λ_ _ _=>rfl⟩ (λr e=>by cases e);have kF:Hid (W1.drew.heap[b]? =some (.cells #[.slice (some ⟨pg,po,none⟩) (m+1) pc,.int .i64 kd,.string ⟨nm.toArray⟩,.int .i64 nu,.slice aa cn cp] 150 (0,0))):=Iq.out;have eu:Hid (∀W3,(KeepsFrom W.heap.size W1.drew W3/\Uz (w.heap.size+1+1) gw W1.drew W3)->KeepsFrom W.heap.size W1 W3/\Uz (w.heap.size+1+1) gw W1 W3):=λW3 h=>⟨⟨h.1.size,h.1.same⟩,h.2⟩;clear HI Iq jJ c0 b0 eN bo hr dh mL;obtain ⟨W2,dR⟩:∃W2,W2=W1.drew:=⟨_,rfl⟩;rw [<-dR] at lj kF eu⊢;clear dR;have b0:=P0 (i:=0) kF.out rfl;have b1:=P0 (i:=1) kF.out rfl;have b2:=P0 (i:=2) kF.out rfl;have b3:=P0 (i:=3) kF.out rfl;have b4:=P0 (i:=4) kF.out rfl;have e1:(1:Int)<=((m+1:Nat):Int):=by omega
   obtain ⟨h4,iV,ir,Is⟩:=Ao.out W2 lj.out;obtain ⟨u0,y0,z0⟩:=h4 0 (by omega);obtain ⟨u1,y1,z1⟩:=h4 1 (by omega);obtain ⟨u2,y2,z2⟩:=h4 2 (by omega);obtain ⟨u3,y3,z3⟩:=h4 3 (by omega);rw [TO] at y0 z0;have bP:Hid (KeepsFrom W.heap.size W1 (Rr W2 (bk m) (pv m) (.int .i64 kd) (.string ⟨nm.toArray⟩) (.int .i64 nu) (.slice aa cn cp))/\Uz (w.heap.size+1+1) gw W1 (Rr W2 (bk m) (pv m) (.int .i64 kd) (.string ⟨nm.toArray⟩) (.int .i64 nu) (.slice aa cn cp))/\Ik w W lo n l (k+1) (Rr W2 (bk m) (pv m) (.int .i64 kd) (.string ⟨nm.toArray⟩) (.int .i64 nu) (.slice aa cn cp))):=⟨(eu.out _ ⟨iV,ir⟩).1,(eu.out _ ⟨iV,ir⟩).2,Is⟩;have dE:Hid (bk 0=w.heap.size):=Ap;clear h4 iV ir Is eu Ao kF Ap;by_cases ce6:pc=1
   ·obtain rfl:m=0:=by omega
    subst ce6;rw [dE.out] at y0 y1 y2 y3 z0 z1 z2 z3
    gi_wp2
    gi_loopw [8,27] (λv8 iv wr=>v8= .pointer (some ⟨w.heap.size,pv 0*4,none⟩)/\iv= .int .i64 0/\wr=W2) (λ_ _ _=>0)
    case atStart=>exact ⟨rfl,rfl,rfl⟩
    obtain ⟨rfl,rfl,rfl⟩:=hrel
    gi_wp2
    have:=bP.out;rw [dE.out] at this;exact this
   gi_wp2
   gi_loopw [8,27] (λv8 iv wr=>∃j:Nat,j<=m/\v8= .pointer (some ⟨bk j,pv j*4,none⟩)/\iv= .int .i64 j/\wr=W2) (λ_ iv _=>m-(intOf iv).toNat)
   case atStart=>exact ⟨0,by omega,by rw [dE.out],by go_num,rfl⟩
   obtain ⟨j,hj,rfl,rfl,rfl⟩:=hrel;by_cases az6:j<m
   ·have q:=by5.out _ lj.out (j+1) (by omega);obtain ⟨cnt,q2,hlt⟩:=em.out _ lj.out j (by omega);have q:wr.cell? ⟨pg,po+1+j,none⟩=some (.int .i64 (pv (j+1))):=by rw [<-q];congr 2;omega
    have j1:(0:Int)<=(j:Int):=by omega
    have j2:(j:Int)<(m:Int):=by omega
    have j3:(0:Int)<=(pv (j+1):Int):=by omega
    have j4:(pv (j+1):Int)<(cnt:Int):=by omega
    gi_wp2
    exact ⟨⟨j+1,az6,rfl,by go_num,trivial⟩,by simp [intOf];omega⟩
   obtain rfl:j=m:=by omega
   gi_wp2
   exact bP.out
 case done=>
  intro D W1 hD hi hd;have c0:=P0 (i:=0) hi.box rfl;have HI:Hid (Ik w W lo n l l.length W1):=hi;have HD:=Qh hd hD;clear hi EX EV EW an aO mt dh EY wG jV oO hd hD
  gi_wp2
  refine ⟨by simp,.inl ⟨_,_,rfl,run_takeDeferred HD.out.1,?_⟩⟩;refine ⟨.slice (some ⟨w.heap.size,0,none⟩) n n,by simp [results,Tryz.results60,go_sem],w.heap.size,rfl,P6 _,?_,?_⟩
  ·refine HI.out.mi.grown (B:=W.heap.size) (by have:=Al.out;omega) (by have:=Al.out;have:=HI.out.size;omega) (grownBy_putObj' W1 D _) (λr e=> ?_);injection e with e;subst e;exact ⟨HD.out.2,_,HD.out.1,rfl⟩
  have h1:=HI.out.size;have h2:=Al.out;have h3:(W1.putObj D (.deferred none)).heap.size=W1.heap.size:=by simp [World.putObj]
  rw [h3];omega
