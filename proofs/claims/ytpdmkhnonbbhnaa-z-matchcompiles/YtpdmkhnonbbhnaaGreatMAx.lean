import Derived.Test.YtpdmkhnonbbhnaaGreatMsx
import Derived.Test.YtpdmkhnonbbhnaaGreatZb
import Derived.Test.YtpdmkhnonbbhnaaGreatZx
import Derived.Test.YtpdmkhnonbbhnaaGreatMqx
namespace Go.Proofs.YtpdmkhnonbbhnaaGreat
open Go.RowKit Go.Maps
set_option maxHeartbeats 8000000
set_option maxRecDepth 10000
section
variable {w V:World}{Q P:Array Value}{S Z:Nat->Prop}{l:List Pt}{i g cap uc:Nat}{u:Pt}
def JX (S:Nat->Prop)(p':Pt)(w:World)(r:Ending)(w':World):Prop:=Below w.heap.size w w'/\∃x',r= .returned x'/\TP w' (λy=>S y\/(w.heap.size<=y/\y<w'.heap.size)) x' p'
abbrev WZ:Array Value:= #[.int .i64 0,.string ⟨#[]⟩,.int .i64 0,.slice none 0 0]
structure Sx (w:World)(P Q:Array Value)(V:World):Prop where
 below:Below w.heap.size w V
 pb:V.heap[w.heap.size]? =some (.cells P 50 (0,0))
 qb:V.heap[w.heap.size+1]? =some (.cells Q 50 (0,0))
 rb:V.heap[w.heap.size+1+1]? =some (.cells WZ 50 (0,0))
theorem Sx.lt (h:Sx w P Q V):w.heap.size+3<=V.heap.size:=PV h.rb
theorem Sx.on {V':World}(h:Sx w P Q V)(hb:Below V.heap.size V V'):Sx w P Q V':=by
 have:=h.lt;exact ⟨h.below.trans (hb.mono h.below.size),(hb.block _ (by omega)).trans h.pb,(hb.block _ (by omega)).trans h.qb,(hb.block _ (by omega)).trans h.rb⟩
theorem Sx.start (hV:V=((w.alloc (.cells P 50)).alloc (.cells Q 50)).alloc (.cells WZ 50)):Sx w P Q V/\V.heap.size=w.heap.size+3:=by
 have b1:Below w.heap.size w (w.alloc (.cells P 50)):=(Pb _ _).alloc (P6 _) _;have s1:(w.alloc (.cells P 50)).heap.size=w.heap.size+1:=by simp
 have b2:Below (w.heap.size+1) (w.alloc (.cells P 50)) ((w.alloc (.cells P 50)).alloc (.cells Q 50)):=(Pb _ _).alloc (by omega) _;have s2:((w.alloc (.cells P 50)).alloc (.cells Q 50)).heap.size=w.heap.size+1+1:=by simp
 have b3:Below (w.heap.size+1+1) ((w.alloc (.cells P 50)).alloc (.cells Q 50)) V:=by rw [hV];exact (Pb _ _).alloc (by omega) _
 refine ⟨⟨b1.trans ((b2.mono (by omega)).trans (b3.mono (by omega))),?_,?_,?_⟩,by rw [hV];simp⟩
 ·rw [b3.block _ (by omega),b2.block _ (by omega)];exact PF w _
 ·rw [b3.block _ (by omega)];have:=PF (w.alloc (.cells P 50)) (.cells Q 50)
  rwa [s1] at this
 have:=PF ((w.alloc (.cells P 50)).alloc (.cells Q 50)) (.cells WZ 50);rw [s2,<-hV] at this;exact this
def Mx (g3 i:Nat)(kk:Int)(kn:Qg)(km:Int)(ka:Option Addr)(kl kc gp op Bq:Nat)(q:Pt)(qa:Option Addr)(qc:Nat)(w:World):Prop:=
 w.cell? ⟨gp,op,none⟩=some (.int .i64 i)/\(w.cell? ⟨g3,i*4,none⟩=some (.int .i64 kk)/\w.cell? ⟨g3,i*4+1,none⟩=some (.string ⟨kn.toArray⟩)/\w.cell? ⟨g3,i*4+2,none⟩=some (.int .i64 km)/\w.cell? ⟨g3,i*4+3,none⟩=some (.slice ka kl kc))/\
 w.cell? ⟨Bq,0,none⟩=some (.int .i64 q.kind)/\w.cell? ⟨Bq,1,none⟩=some (.string ⟨q.name.toArray⟩)/\w.cell? ⟨Bq,2,none⟩=some (.int .i64 q.num)/\w.cell? ⟨Bq,3,none⟩=some (.slice qa q.kids.length qc)
theorem XB {U:World}{T:Nat->Prop}{ad:Option Addr}(h:PC R9 w Z S (.slice (some ⟨g,0,none⟩) l.length cap) l)(hi:i<l.length)(hk:OZ S w U)(hc:∀j c,j<l.length->j≠i->c<4->U.cell? ⟨g,j*4+c,none⟩=w.cell? ⟨g,j*4+c,none⟩)(hT:∀y,S y->T y)(hg:T g)
  (u0:U.cell? ⟨g,i*4,none⟩=some (.int .i64 u.kind)) (u1:U.cell? ⟨g,i*4+1,none⟩=some (.string ⟨u.name.toArray⟩)) (u2:U.cell? ⟨g,i*4+2,none⟩=some (.int .i64 u.num)) (u3:U.cell? ⟨g,i*4+3,none⟩=some (.slice ad u.kids.length uc)) (b1:u.name.length<140737488355328) (b2:u.kids.length<140737488355328) (hp:Pl U T (.slice ad u.kids.length uc) u.kids):
  Pl U T (.slice (some ⟨g,0,none⟩) (l.set i u).length cap) (l.set i u):=by
 rcases h with ⟨rfl,_⟩ | ⟨g',o',cap',e,h0,h1,h2⟩
 ·simp at hi
 injection e with e1 _ e3;injection e1 with e1;injection e1 with e1 e2;subst e1 e2 e3;refine .inr ⟨g,0,cap,rfl,λe=>h0 (by simpa using e),by simpa using h1,λj hj=> ?_⟩;have aJ:j<l.length:=by simpa using hj
 rw [ON];split
 ·rename_i e;subst e;rw [Rp];exact RN.mk hg u0 u1 u2 b1 b2 u3 hp
 rename_i e;obtain ⟨_,cs,⟨ka,kc,rfl,k1,k2,k3⟩,aT⟩:=h2 j aJ;have e0:=aT 0 (by decide);have e1:=aT 1 (by decide);have e2:=aT 2 (by decide);have e3:=aT 3 (by decide);have q:∀c,c<4->U.cell? ⟨g,0+j*4+c,none⟩=w.cell? ⟨g,0+j*4+c,none⟩:=λc h=>by
  rw [Rp];exact hc j c aJ (λh=>e h.symm) h
 exact RN.mk hg ((q 0 (by omega)).trans e0) ((q 1 (by omega)).trans e1) ((q 2 (by omega)).trans e2) k1 k2 ((q 3 (by omega)).trans e3) ((k3.on hk).up hT)
theorem YR (h:PC R9 w Z S (.slice (some ⟨g,0,none⟩) l.length cap) l)(hi:i<l.length):∃ka kc,w.cell? ⟨g,i*4+3,none⟩=some (.slice ka l[i].kids.length kc)/\l[i].name.length<140737488355328/\l[i].kids.length<140737488355328/\Pl w S (.slice ka l[i].kids.length kc) l[i].kids:=by
 rcases h with ⟨rfl,_⟩ | ⟨g',o',cap',e,h0,h1,h2⟩
 ·simp at hi
 injection e with e1 _ e3;injection e1 with e1;injection e1 with e1 e2;subst e1 e2 e3;obtain ⟨_,cs,⟨ka,kc,rfl,k1,k2,k3⟩,aT⟩:=h2 i hi;have e3:=aT 3 (by decide);rw [Rp] at e3;exact ⟨ka,kc,e3,k1,k2,k3⟩
theorem YT {B:Nat}{v:Value}(h:Pi R9 50 B S w v l)(am:l≠[]):∃g cap cur,v= .slice (some ⟨g,0,none⟩) l.length cap/\w.heap[g]? =some (.cells cur 50 (0,0))/\l.length<=cap/\cur.size=cap*4/\B<=g:=by
 obtain ⟨bX,_,_,⟨_,h3⟩ | ⟨g,cap,cur,h1,h2,h3,h4,_,h5,_⟩⟩:=Own.row h
 ·exact absurd (Up.1 h3) am
 exact ⟨g,cap,cur,h1,h3,h4,h5,h2⟩
def Z9 (S:Nat->Prop)(B:Nat)(w:World)(g:Nat)(y:Nat):Prop:=S y\/(B<=y/\y<w.heap.size/\y≠g)
def Vn (S:Nat->Prop)(w:World)(p:Pt)(g3 cap3:Nat)(p':Pt)(U:World):Prop:=
 U.cell? ⟨w.heap.size,0,none⟩=some (.int .i64 p.kind)/\U.cell? ⟨w.heap.size,1,none⟩=some (.string ⟨p.name.toArray⟩)/\U.cell? ⟨w.heap.size,2,none⟩=some (.int .i64 p.num)/\(∃y,U.cell? ⟨w.heap.size,3,none⟩=some y)/\U.frozen? ⟨w.heap.size,3,none⟩=false/\
 ∃V1,V1=U.setCell ⟨w.heap.size,3,none⟩ (.slice (some ⟨g3,0,none⟩) p.kids.length cap3)/\V1.cell? ⟨w.heap.size,0,none⟩=some (.int .i64 p.kind)/\V1.cell? ⟨w.heap.size,1,none⟩=some (.string ⟨p.name.toArray⟩)/\V1.cell? ⟨w.heap.size,2,none⟩=some (.int .i64 p.num)/\V1.cell? ⟨w.heap.size,3,none⟩=some (.slice (some ⟨g3,0,none⟩) p.kids.length cap3)/\
  V1.cell? ⟨w.heap.size+1+1,0,none⟩=some (.int .i64 0)/\V1.cell? ⟨w.heap.size+1+1,1,none⟩=some (.string ⟨#[]⟩)/\V1.cell? ⟨w.heap.size+1+1,2,none⟩=some (.int .i64 0)/\V1.cell? ⟨w.heap.size+1+1,3,none⟩=some (.slice none 0 0)/\V1.frozen? ⟨w.heap.size+1+1,0,none⟩=false/\V1.frozen? ⟨w.heap.size+1+1,1,none⟩=false/\V1.frozen? ⟨w.heap.size+1+1,2,none⟩=false/\V1.frozen? ⟨w.heap.size+1+1,3,none⟩=false/\
  ∃V2,V2=(((V1.setCell ⟨w.heap.size+1+1,0,none⟩ (.int .i64 p.kind)).setCell ⟨w.heap.size+1+1,1,none⟩ (.string ⟨p.name.toArray⟩)).setCell ⟨w.heap.size+1+1,2,none⟩ (.int .i64 p.num)).setCell ⟨w.heap.size+1+1,3,none⟩ (.slice (some ⟨g3,0,none⟩) p.kids.length cap3)/\
   V2.cell? ⟨w.heap.size+1+1,0,none⟩=some (.int .i64 p.kind)/\V2.cell? ⟨w.heap.size+1+1,1,none⟩=some (.string ⟨p.name.toArray⟩)/\V2.cell? ⟨w.heap.size+1+1,2,none⟩=some (.int .i64 p.num)/\V2.cell? ⟨w.heap.size+1+1,3,none⟩=some (.slice (some ⟨g3,0,none⟩) p.kids.length cap3)/\
   JX S p' w (.returned (.agg #[.int .i64 p.kind,.string ⟨p.name.toArray⟩,.int .i64 p.num,.slice (some ⟨g3,0,none⟩) p.kids.length cap3])) V2
theorem XR {W w3 w5:World}{p p':Pt}{xa:Option Addr}{xc:Nat}{g3 cap3:Nat}{jx:Array Value}{ua:Option Addr}(hx:Sx w #[.int .i64 p.kind,.string ⟨p.name.toArray⟩,.int .i64 p.num,.slice xa p.kids.length xc] Q w3)(hsz:W.heap.size=w.heap.size+3)(vh:p'.lab=p.lab)(jb:p'.kids=p.kids.set i u)(hi:i<p.kids.length)
  (hr:PC R9 w3 (λy=>(Value.slice (some ⟨g3,0,none⟩) p.kids.length cap3).ownBlock=some y) (RL S W.heap.size w3 (.slice (some ⟨g3,0,none⟩) p.kids.length cap3)) (.slice (some ⟨g3,0,none⟩) p.kids.length cap3) p.kids) (hb3:w3.heap[g3]? =some (.cells jx 50 (0,0))) (mx:jx.size=cap3*4) (hc3:p.kids.length<=cap3) (mB:W.heap.size<=g3) (hS:∀y,S y->y<w.heap.size) (be5:p.name.length<140737488355328)
  (hb:Below w3.drew.heap.size w3.drew w5) (h1:u.name.length<140737488355328) (h2:u.kids.length<140737488355328) (h3:Pl w5 (λy=>Z9 S W.heap.size w3 g3 y\/(w3.drew.heap.size<=y/\y<w5.heap.size)) (.slice ua u.kids.length uc) u.kids) (eZ:p.kids.length<140737488355328):
  Vn S w p g3 cap3 p' (Rr w5 g3 i (.int .i64 u.kind) (.string ⟨u.name.toArray⟩) (.int .i64 u.num) (.slice ua u.kids.length uc)):=by
 have aj:Below w3.heap.size w3 w5:=⟨hb.os,hb.tape,hb.output,hb.size,hb.block⟩;have Fs:=hx.on aj;have hlt:=hx.lt;have vi:=PV hb3;have iI:=aj.size;have cj5:w5.heap[g3]? =some (.cells jx 50 (0,0)):=(aj.block g3 vi).trans hb3;have aT:i*4+3<jx.size:=by omega
 obtain ⟨U,hU⟩:∃U,U=Rr w5 g3 i (.int .i64 u.kind) (.string ⟨u.name.toArray⟩) (.int .i64 u.num) (.slice ua u.kids.length uc):=⟨_,rfl⟩;rw [<-hU];have aP:∀y,y≠g3->U.heap[y]? =w5.heap[y]? :=λy hy=>by rw [hU];exact XJ _ _ _ _ _ _ _ _ hy
 have bj:U.heap.size=w5.heap.size:=by rw [hU];exact L5 _ _ _ _ _ _ _
 have aZ:Below w.heap.size w U:=by
  rw [hU];unfold Rr;exact (((Fs.below.setCell (p:=⟨g3,i*4,none⟩) (by show w.heap.size<=g3;omega) _).setCell (p:=⟨g3,i*4+1,none⟩) (by show w.heap.size<=g3;omega) _).setCell (p:=⟨g3,i*4+2,none⟩) (by show w.heap.size<=g3;omega) _).setCell (p:=⟨g3,i*4+3,none⟩) (by show w.heap.size<=g3;omega) _
 have co5:U.heap[g3]? =some (.cells ((((jx.setIfInBounds (i*4) (.int .i64 u.kind)).setIfInBounds (i*4+1) (.string ⟨u.name.toArray⟩)).setIfInBounds (i*4+2) (.int .i64 u.num)).setIfInBounds (i*4+3) (.slice ua u.kids.length uc)) 50 (0,0)):=by
  rw [hU];unfold Rr;exact Q5 (i:=i*4+3) (Q5 (i:=i*4+2) (Q5 (i:=i*4+1) (Q5 (i:=i*4) cj5)))
 clear hU;have wN:=(aP w.heap.size (by omega)).trans Fs.pb;have ci7:=(aP (w.heap.size+1+1) (by omega)).trans Fs.rb;obtain ⟨V1,rC⟩:∃V1,V1=U.setCell ⟨w.heap.size,3,none⟩ (.slice (some ⟨g3,0,none⟩) p.kids.length cap3):=⟨_,rfl⟩;have vj:∀y,y≠w.heap.size->V1.heap[y]? =U.heap[y]? :=λy hy=>by rw [rC];exact PX _ _ _ _ hy
 have rD:V1.heap[w.heap.size]? =some (.cells #[.int .i64 p.kind,.string ⟨p.name.toArray⟩,.int .i64 p.num,.slice (some ⟨g3,0,none⟩) p.kids.length cap3] 50 (0,0)):=by
  rw [rC];exact Q5 (i:=3) wN
 have af4:V1.heap.size=U.heap.size:=by rw [rC];simp [World.setCell]
 have oZ:Below w.heap.size w V1:=by rw [rC];exact aZ.setCell (p:=⟨w.heap.size,3,none⟩) (P6 _) _
 have iL:=(vj (w.heap.size+1+1) (by omega)).trans ci7;obtain ⟨V2,Ft,rE,bm7,vk,vl⟩:=Z5 iL (.int .i64 p.kind) (.string ⟨p.name.toArray⟩) (.int .i64 p.num) (.slice (some ⟨g3,0,none⟩) p.kids.length cap3);have aQ:∀y,y≠g3->y≠w.heap.size->y≠w.heap.size+1+1->V2.heap[y]? =w5.heap[y]? :=λy h1 h2 h3=>by rw [vk y h3,vj y h2,aP y h1]
 have AG:=(vk g3 (by omega)).trans ((vj g3 (by omega)).trans co5);have ay3:p'.kind=p.kind:=by unfold Pt.kind;rw [vh]
 have tg:p'.name=p.name:=by unfold Pt.name;rw [vh]
 have dK:p'.num=p.num:=by unfold Pt.num;rw [vh]
 have aA:p'.kids.length=p.kids.length:=by rw [jb,XO]
 refine ⟨P5 wN (i:=0) rfl,P5 wN (i:=1) rfl,P5 wN (i:=2) rfl,⟨_,P5 wN (i:=3) rfl⟩,Pp wN,V1,rC,P5 rD (i:=0) rfl,P5 rD (i:=1) rfl,P5 rD (i:=2) rfl,P5 rD (i:=3) rfl,P5 iL (i:=0) rfl,P5 iL (i:=1) rfl,P5 iL (i:=2) rfl,P5 iL (i:=3) rfl,Pp iL,Pp iL,Pp iL,Pp iL,V2,Ft,P5 rE (i:=0) rfl,P5 rE (i:=1) rfl,P5 rE (i:=2) rfl,P5 rE (i:=3) rfl,?_⟩;refine ⟨⟨vl.1.trans oZ.os,vl.2.1.trans oZ.tape,vl.2.2.trans oZ.output,by rw [bm7];exact oZ.size,λy hy=>(vk y (by omega)).trans (oZ.block y hy)⟩,_,rfl,some ⟨g3,0,none⟩,cap3,by rw [ay3,tg,dK,aA],by rw [tg];exact be5,by rw [aA];exact eZ,?_⟩;rw [jb];have bn:∀c,c<4->V2.cell? ⟨g3,i*4+c,none⟩=([.int .i64 u.kind,.string ⟨u.name.toArray⟩,.int .i64 u.num,.slice ua u.kids.length uc]:List Value)[c]? :=λc hc=>by
  unfold World.cell?;rw [AG];show (Array.setIfInBounds _ _ _)[i*4+c]? =_;rcases Sk c 1 with e | e
  ·obtain rfl:c=0:=by omega
   rw [Q9,P7 (by omega),Q9,P7 (by omega),Q9,P7 (by omega),Q9,Pc (by omega),Pc (by omega)]
   rfl
  rcases Sk c 2 with e2 | e2
  ·obtain rfl:c=1:=by omega
   rw [Q9,P7 (by omega),Q9,P7 (by omega),Q9,Pc rfl,Pc (by simp;omega)]
   rfl
  rcases Sk c 3 with e3 | e3
  ·obtain rfl:c=2:=by omega
   rw [Q9,P7 (by omega),Q9,Pc rfl,Pc (by simp;omega)]
   rfl
  obtain rfl:c=3:=by omega
  rw [Q9,Pc rfl,Pc (by simp;omega)]
  rfl
 refine XB (T:=λy=>S y\/(w.heap.size<=y/\y<V2.heap.size)) hr hi (λy hy=> ?_) (λj c hj bZ hc=> ?_) (λy hy=> ?_) (.inr ⟨by omega,by omega⟩) (bn 0 (by omega)) (bn 1 (by omega)) (bn 2 (by omega)) (bn 3 (by omega)) h1 h2 ?_
 ·have ci2:y≠g3:=λe=>by
   rcases hy with hy | hy
   ·have:=hS y hy;omega
   exact hy.2.2 (by rw [e];rfl)
  have hy2:y<w3.heap.size/\y≠w.heap.size/\y≠w.heap.size+1+1:=by
   rcases hy with hy | hy
   ·have:=hS y hy;omega
   have:=hy.1;have:=hy.2.1;omega
  exact (aQ y ci2 hy2.2.1 hy2.2.2).trans (aj.block y hy2.1)
 ·unfold World.cell?;rw [AG,hb3];show (Array.setIfInBounds _ _ _)[j*4+c]? =jx[j*4+c]?;rw [Q9,P7 (by omega),Q9,P7 (by omega),Q9,P7 (by omega),Q9,P7 (by omega)]
 ·rcases hy with hy | hy
  ·exact .inl hy
  have:=hy.1;have:=hy.2.1;exact .inr ⟨by omega,by omega⟩
 refine (h3.on λy hy=> ?_).up λy hy=> ?_
 ·rcases hy with (hy | hy) | hy
  ·have:=hS y hy;exact aQ y (by omega) (by omega) (by omega)
  ·have:=hy.1;exact aQ y hy.2.2 (by omega) (by omega)
  have:w3.heap.size<=y:=hy.1;exact aQ y (by omega) (by omega) (by omega)
 rcases hy with (hy | hy) | hy
 ·exact .inl hy
 ·have:=hy.1;have:=hy.2.1;exact .inr ⟨by omega,by omega⟩
 have:w3.heap.size<=y:=hy.1;exact .inr ⟨by omega,by have:=hy.2;omega⟩
theorem N6:∀(ρ:List Nat) (p q p':Pt),XC ρ p q p'->ρ.length<=100000->∀(w:World) (S:Nat->Prop) (x pv qx:Value),(∀y,S y->y<w.heap.size)->TP w S x p->Pv w S pv ρ->TP w S qx q->Calls Tryz.prog 65 #[x,pv,qx] w (JX S p' w)
 | [],p,q,p',hs,_,w,S,x,pv,qx,hS,hx,hp,hq=>by
  obtain rfl:p'=q:=hs;obtain ⟨xa,xc,rfl,_⟩:=hx;obtain ⟨pa,pc,rfl⟩:=Pd.len hp;obtain ⟨qa,qc,rfl,q1,q2,q3⟩:=hq;have HQ:=Ro q1 q2 q3;have HS:=P4 hS;obtain ⟨W,hW⟩:∃W,W=((w.alloc (.cells #[.int .i64 p.kind,.string ⟨p.name.toArray⟩,.int .i64 p.num,.slice xa p.kids.length xc] 50)).alloc (.cells #[.int .i64 p'.kind,.string ⟨p'.name.toArray⟩,.int .i64 p'.num,.slice qa p'.kids.length qc] 50)).alloc (.cells WZ 50):=⟨_,rfl⟩;obtain ⟨hx,hsz⟩:=Sx.start hW;obtain ⟨U,hU,aG,bj,c9,aP⟩:=Z5 hx.rb (.int .i64 p'.kind) (.string ⟨p'.name.toArray⟩) (.int .i64 p'.num) (.slice qa p'.kids.length qc);have hlt:=hx.lt;have HB:Hid (Below w.heap.size w U):=⟨aP.1.trans hx.below.os,aP.2.1.trans hx.below.tape,aP.2.2.trans hx.below.output,by rw [bj];exact hx.below.size,λy hy=>(c9 y (by omega)).trans (hx.below.block y hy)⟩;have g0:=P5 hx.qb (i:=0) rfl;have g1:=P5 hx.qb (i:=1) rfl;have g2:=P5 hx.qb (i:=2) rfl;have g3:=P5 hx.qb (i:=3) rfl;have r0:=P5 hx.rb (i:=0) rfl;have r1:=P5 hx.rb (i:=1) rfl;have r2:=P5 hx.rb (i:=2) rfl;have r3:=P5 hx.rb (i:=3) rfl;have f0:=Pp (o:=0) hx.rb;have f1:=Pp (o:=1) hx.rb;have f2:=Pp (o:=2) hx.rb;have f3:=Pp (o:=3) hx.rb;clear q1 q2 q3 hS hp hx hsz bj c9 aP hlt;rw [YO];generalize p.kind=k1 at *
  generalize p.name=n1 at *
  generalize p.num=m1 at *
  generalize p.kids.length=l1 at *
  go_enter Tryz.func65,Tryz.ntmps65
  go_upto_region 2 with fail
  rw [<-hW];clear hW;go_wp2;rw [<-hU];have u0:=P5 aG (i:=0) rfl;have u1:=P5 aG (i:=1) rfl;have u2:=P5 aG (i:=2) rfl;have u3:=P5 aG (i:=3) rfl;refine Qv (v:= .agg #[.int .i64 p'.kind,.string ⟨p'.name.toArray⟩,.int .i64 p'.num,.slice qa p'.kids.length qc]) (by simp [results,Tryz.results65,go_sem,u0,u1,u2,u3]) rfl ?_;exact ⟨HB.out,_,rfl,qa,qc,rfl,HQ.1,HQ.2.1,(HQ.2.2.on (OZ.of HB.out HS.out)).up λ_ h=> .inl h⟩
 | i::ρ,p,q,p',hs,hl,w,S,x,pv,qx,hS,hx,hp,hq=>by
  have IH:=N6 ρ;obtain ⟨hi,u,e1,e2,e3,e4⟩:=hs;obtain ⟨xa,xc,rfl,x1,x2,x3⟩:=hx;obtain ⟨pa,pc,rfl⟩:=Pd.len hp;obtain ⟨qa,qc,rfl,q1,q2,q3⟩:=hq;obtain ⟨W,hW⟩:∃W,W=((w.alloc (.cells #[.int .i64 p.kind,.string ⟨p.name.toArray⟩,.int .i64 p.num,.slice xa p.kids.length xc] 50)).alloc (.cells #[.int .i64 q.kind,.string ⟨q.name.toArray⟩,.int .i64 q.num,.slice qa q.kids.length qc] 50)).alloc (.cells WZ 50):=⟨_,rfl⟩;obtain ⟨hx,hsz⟩:=Sx.start hW;have aA:(i::ρ).length=ρ.length+1:=rfl;rw [aA];have p3:=P5 hx.pb (i:=3) rfl;obtain ⟨V0,tA⟩:∃V0,V0=W.alloc (.cells #[] 50):=⟨_,rfl⟩;have cu:Below W.heap.size W V0:=by rw [tA];exact (Pb _ _).alloc (P6 _) _
  have uG:∀y,S y->y<W.heap.size:=λy hy=>by have:=hS y hy;omega
  have wk:Hid (Pi R9 50 W.heap.size S V0 (.slice (some ⟨W.heap.size,0,none⟩) 0 0) []):=by rw [tA];exact Pi.made _ _ _ _ uG
  have bf4:=P5 ((hx.on cu).pb) (i:=3) rfl;have bx5:=P4 (hx.on cu);have E2:=P4 (x3.on (OZ.of bx5.below hS));have qA:=P4 uG;have dE:=P4 cu;have l1:(((ρ.length:Int)+1)==0)=false:=by simpa using (by omega:¬((ρ.length:Int)+1=0))
  have mz:=P4 hsz;have bd6:=P4 hx;have eu:Hid (Pl w S (.slice xa p.kids.length xc) p.kids/\TP w S (.agg #[.int .i64 q.kind,.string ⟨q.name.toArray⟩,.int .i64 q.num,.slice qa q.kids.length qc]) q/\Pv w S (.slice pa (ρ.length+1) pc) (i::ρ)/\∀y,S y->y<w.heap.size):=⟨x3,⟨qa,qc,rfl,q1,q2,q3⟩,hp,hS⟩;have C4:=Ro e1 e2 e4;have IX:=P4 x1;have qT:w.heap.size<W.heap.size:=by omega
  clear hsz hx cu uG x1 x2 x3 q1 q2 q3 hp hS e1 e2 e4 aA;go_enter Tryz.func65,Tryz.ntmps65
  go_upto_region 3 with fail
  rw [<-hW];clear hW
  go_upto_region 4 with (at_builtin;rw [<-tA];(refine Yg (E:=R9) (Z:=S) (v:= .slice (some ⟨W.heap.size,0,none⟩) 0 0) Tryz.ty31 rfl _ _ rfl (l:=[]) rfl wk.out qA.out dE.out.size (Pb _ _) rfl (m:=p.kids) ((Pl.toE E2.out).on (OZ.refl _ _) (OZ.refl _ _) (λ_ h=>h) λ_ h=> .inl h) (by simp;omega) ?_);intro v3 w3 O3 B3 _;rw [VP] at O3)
  obtain ⟨g3,cap3,jx,rfl,hb3,hc3,mx,mB⟩:=YT O3 (λe=>by rw [e] at hi;simp at hi);have au:=Pi.rowE O3;obtain ⟨AI,aj3,lT,_,_,a0,a1,a2,ka,kc,a3,hv⟩:=(au.toPats).at hi;injection lT with lT;injection lT with lT cf5;subst lT cf5;obtain ⟨_,_,zJ,th⟩:=Pd.open eu.2.2.1;injection zJ with zJ bo jh;subst zJ jh;obtain ⟨gp,op,rfl,jh,AJ⟩:=th (by simp);have AK:Below W.heap.size W w3:=dE.trans B3;have hx3:=bd6.on AK;have dL:=hx3.below;have aq:=eu.2.2.2;have vm:=(OZ.of dL aq).cell (p:=⟨gp,op+0*1,none⟩) (AJ 0 (by simp)).1 |>.trans (AJ 0 (by simp)).2;rw [Uk,TO,Yx] at vm;have wE:gp<w.heap.size:=aq _ (AJ 0 (by simp)).1;have g0:=P5 hx3.qb (i:=0) rfl;have g1:=P5 hx3.qb (i:=1) rfl;have g2:=P5 hx3.qb (i:=2) rfl;have AI:=P5 hx3.qb (i:=3) rfl;rw [Rp] at a0 a1 a2 a3;have wI:=Own.rowE O3;have IY:TP w3.drew (Z9 S W.heap.size w3 g3) (.agg #[.int .i64 q.kind,.string ⟨q.name.toArray⟩,.int .i64 q.num,.slice qa q.kids.length qc]) q:=by
   obtain ⟨Fv,Fw,e,r1,r2,r3⟩:=eu.2.1.on (OZ.of dL aq);exact ⟨Fv,Fw,e,r1,r2,(r3.up λ_ h=> .inl h).on λ_ _=>rfl⟩
  have IZ:TP w3.drew (Z9 S W.heap.size w3 g3) (.agg #[.int .i64 p.kids[i].kind,.string ⟨p.kids[i].name.toArray⟩,.int .i64 p.kids[i].num,.slice ka p.kids[i].kids.length kc]) p.kids[i]:=by
   obtain ⟨ay6,bt2,k1,k2,k3,k4⟩:=YR wI hi;obtain ⟨rfl,rfl⟩:ka=ay6/\kc=bt2:=by
    rw [a3] at k1;simpa using k1
   exact ⟨_,_,rfl,k2,k3,(k4.up λy h=>h.imp id λh=>⟨h.1,h.2.1,λe=>h.2.2 (by rw [e];rfl)⟩).on λ_ _=>rfl⟩
  have wf:∀pa' c',(ρ≠[]->pa'=some ⟨gp,op+1,none⟩/\ρ.length<=c')->Pv w3.drew (Z9 S W.heap.size w3 g3) (.slice pa' ρ.length c') ρ:=λpa' c' h=>by
   by_cases h0:ρ=[]
   ·rw [h0];exact .inl ⟨rfl,_,_,rfl⟩
   obtain ⟨rfl,h2⟩:=h h0;refine .inr ⟨gp,op+1,c',rfl,h0,h2,λj hj=> ?_⟩;have:=AJ (j+1) (by simpa using hj);refine ⟨.inl this.1,?_⟩;have h3:=(OZ.of dL aq).cell (p:=⟨gp,op+(j+1)*1,none⟩) this.1 |>.trans this.2;rw [show op+(j+1)*1=op+1+j*1 by omega,MT] at h3;exact h3
  have I':∀y,Z9 S W.heap.size w3 g3 y->y<w3.drew.heap.size:=λy hy=>by
   show y<w3.heap.size;rcases hy with hy | hy
   ·have:=aq y hy;have:=dL.size;omega
   exact hy.2.1
  have CI:∀pa' c',(ρ≠[]->pa'=some ⟨gp,op+1,none⟩/\ρ.length<=c')->Calls Tryz.prog 65 #[.agg #[.int .i64 p.kids[i].kind,.string ⟨p.kids[i].name.toArray⟩,.int .i64 p.kids[i].num,.slice ka p.kids[i].kids.length kc],.slice pa' ρ.length c',.agg #[.int .i64 q.kind,.string ⟨q.name.toArray⟩,.int .i64 q.num,.slice qa q.kids.length qc]] w3.drew (JX (Z9 S W.heap.size w3 g3) u w3.drew):=λpa' c' h=>IH p.kids[i] q u C4.2.2 (by simp at hl;omega) w3.drew _ _ _ _ I' IZ (wf pa' c' h) IY;have cE:=P4 CI;have pZ:Hid _:=wI;have tL:=P4 hx3;have HB3:=S6 hb3 hc3 mx mB;have vi:g3<w3.heap.size:=PV hb3;clear CI wI hx3 IY IZ wf I' au hv th AJ dL aq O3 B3 AK hb3 mx mB p3 bf4 bo;have c1:(0:Int)<=(i:Int):=by omega
  have c2:(i:Int)<(p.kids.length:Int):=by omega
  have c3:(0:Int)<(ρ.length:Int)+1:=by omega
  have ca3:w.heap.size+1<w3.heap.size:=by have:=tL.lt;omega
  have ac7:ρ.length+1<=pc:=jh;clear jh;have tP:Hid (∀w5 ua uc,Below w3.drew.heap.size w3.drew w5->u.name.length<140737488355328->u.kids.length<140737488355328->Pl w5 (λy=>Z9 S W.heap.size w3 g3 y\/(w3.drew.heap.size<=y/\y<w5.heap.size)) (.slice ua u.kids.length uc) u.kids->Vn S w p g3 cap3 p' (Rr w5 g3 i (.int .i64 u.kind) (.string ⟨u.name.toArray⟩) (.int .i64 u.num) (.slice ua u.kids.length uc))):=λw5 ua uc hb h1 h2 h3=>XR tL.out mz.out C4.1 C4.2.1 hi pZ.out HB3.1 HB3.2.2.1 HB3.2.1 HB3.2.2.2 eu.2.2.2 IX.out hb h1 h2 h3 (by omega);clear pZ C4 eu IX;obtain ⟨pa',vn⟩:∃pa':Option Addr,pa'=if pc=1 then some ⟨gp,op,none⟩ else some ⟨gp,op+1,none⟩:=⟨_,rfl⟩
  have CI:=cE.out pa' (pc-1) (λh=>by
   have:=Tk.2 h;rw [vn,P7 (by omega)];exact ⟨rfl,by omega⟩)
  have mU:=P4 vn;clear vn;clear cE IH;generalize p.kids[i].kind=kk at *
  generalize p.kids[i].name=kn at *
  generalize p.kids[i].num=km at *
  generalize p.kids[i].kids.length=kl at *
  have aw:Mx g3 i kk kn km ka kl kc gp op (w.heap.size+1) q qa qc w3.drew:=⟨vm,⟨a0,a1,a2,a3⟩,g0,g1,g2,AI⟩;have bu3:Hid (∀w5,Below w3.drew.heap.size w3.drew w5->Mx g3 i kk kn km ka kl kc gp op (w.heap.size+1) q qa qc w5/\∀o,w5.frozen? ⟨g3,o,none⟩=false):=λw5 hb=>by
   have h1:=(hb.block g3 vi).trans HB3.1;have hq:=λo=>hb.cell (p:=⟨w.heap.size+1,o,none⟩) ca3;exact ⟨⟨(hb.cell (p:=⟨gp,op,none⟩) (by show gp<w3.heap.size;omega)).trans vm,⟨(hb.cell (p:=⟨g3,i*4,none⟩) vi).trans a0,(hb.cell (p:=⟨g3,i*4+1,none⟩) vi).trans a1,(hb.cell (p:=⟨g3,i*4+2,none⟩) vi).trans a2,(hb.cell (p:=⟨g3,i*4+3,none⟩) vi).trans a3⟩,(hq 0).trans g0,(hq 1).trans g1,(hq 2).trans g2,(hq 3).trans AI⟩,λo=>Pp h1⟩
  refine ZO (S:=Mx g3 i kk kn km ka kl kc gp op (w.heap.size+1) q qa qc) (L:=15) (n:=16) (by kernel_rfl) rfl (by kernel_rfl) ?_;refine Ri (i:=0) (some 16) (v:= .slice (some ⟨g3,0,none⟩) p.kids.length cap3) rfl rfl (by kernel_rfl) (by kernel_rfl) (by kernel_rfl) (by kernel_rfl) (by kernel_rfl) (λ_ _ _ h=>h) (Or.inl ⟨by rfl,?_⟩) aw ?_
  ·intro w' aq;go_simp
  simp only [Act.put,PN,PS,PT];refine Ri (i:=1) (some 17) (v:= .slice (some ⟨gp,op,none⟩) (ρ.length+1) pc) rfl rfl (by kernel_rfl) (by kernel_rfl) (by kernel_rfl) (by kernel_rfl) (by kernel_rfl) (λ_ _ _ h=>h) (Or.inl ⟨by rfl,?_⟩) aw ?_
  ·intro w' aq;go_simp
  simp only [Act.put,PN,PS,PT];refine Ri (i:=2) (some 18) (v:= .pointer (some ⟨gp,op,none⟩)) rfl rfl (by kernel_rfl) (by kernel_rfl) (by kernel_rfl) (by kernel_rfl) (by kernel_rfl) (λ_ _ _ h=>h) (Or.inl ⟨by rfl,?_⟩) aw ?_
  ·intro w' aq;go_simp
  simp only [Act.put,PN,PS,PT];refine Ri (i:=3) (some 19) (v:= .int .i64 i) rfl rfl (by kernel_rfl) (by kernel_rfl) (by kernel_rfl) (by kernel_rfl) (by kernel_rfl) (λ_ _ _ h=>h) (Or.inl ⟨by rfl,?_⟩) aw ?_
  ·intro w' aq;obtain ⟨s0,⟨s1,s2,s3,s4⟩,s5,s6,s7,s8⟩:=aq;go_simp
  simp only [Act.put,PN,PS,PT];refine Ri (i:=4) (some 20) (v:= .slice (some ⟨g3,0,none⟩) p.kids.length cap3) rfl rfl (by kernel_rfl) (by kernel_rfl) (by kernel_rfl) (by kernel_rfl) (by kernel_rfl) (λ_ _ _ h=>h) (Or.inl ⟨by rfl,?_⟩) aw ?_
  ·intro w' aq;go_simp
  simp only [Act.put,PN,PS,PT];refine Ri (i:=5) (some 21) (v:= .slice (some ⟨gp,op,none⟩) (ρ.length+1) pc) rfl rfl (by kernel_rfl) (by kernel_rfl) (by kernel_rfl) (by kernel_rfl) (by kernel_rfl) (λ_ _ _ h=>h) (Or.inl ⟨by rfl,?_⟩) aw ?_
  ·intro w' aq;go_simp
  simp only [Act.put,PN,PS,PT];refine Ri (i:=6) (some 22) (v:= .pointer (some ⟨gp,op,none⟩)) rfl rfl (by kernel_rfl) (by kernel_rfl) (by kernel_rfl) (by kernel_rfl) (by kernel_rfl) (λ_ _ _ h=>h) (Or.inl ⟨by rfl,?_⟩) aw ?_
  ·intro w' aq;go_simp
  simp only [Act.put,PN,PS,PT];refine Ri (i:=7) (some 23) (v:= .int .i64 i) rfl rfl (by kernel_rfl) (by kernel_rfl) (by kernel_rfl) (by kernel_rfl) (by kernel_rfl) (λ_ _ _ h=>h) (Or.inl ⟨by rfl,?_⟩) aw ?_
  ·intro w' aq;obtain ⟨s0,⟨s1,s2,s3,s4⟩,s5,s6,s7,s8⟩:=aq;go_simp
  simp only [Act.put,PN,PS,PT];refine Ri (i:=8) (some 24) (v:= .pointer (some ⟨g3,i*4,none⟩)) rfl rfl (by kernel_rfl) (by kernel_rfl) (by kernel_rfl) (by kernel_rfl) (by kernel_rfl) (λ_ _ _ h=>h) (Or.inl ⟨by rfl,?_⟩) aw ?_
  ·intro w' aq;go_simp
  simp only [Act.put,PN,PS,PT];refine Ri (i:=9) (some 25) (v:= .agg #[.int .i64 kk,.string ⟨kn.toArray⟩,.int .i64 km,.slice ka kl kc]) rfl rfl (by kernel_rfl) (by kernel_rfl) (by kernel_rfl) (by kernel_rfl) (by kernel_rfl) (λ_ _ _ h=>h) (Or.inl ⟨by rfl,?_⟩) aw ?_
  ·intro w' aq;obtain ⟨s0,⟨s1,s2,s3,s4⟩,s5,s6,s7,s8⟩:=aq;go_simp
  simp only [Act.put,PN,PS,PT];refine Ri (i:=10) (some 26) (v:= .slice (some ⟨gp,op,none⟩) (ρ.length+1) pc) rfl rfl (by kernel_rfl) (by kernel_rfl) (by kernel_rfl) (by kernel_rfl) (by kernel_rfl) (λ_ _ _ h=>h) (Or.inl ⟨by rfl,?_⟩) aw ?_
  ·intro w' aq;go_simp
  simp only [Act.put,PN,PS,PT];refine Ri (i:=11) (some 27) (v:= .slice pa' ρ.length (pc-1)) rfl rfl (by kernel_rfl) (by kernel_rfl) (by kernel_rfl) (by kernel_rfl) (by kernel_rfl) (λ_ _ _ h=>h) (Or.inl ⟨by rfl,?_⟩) aw ?_
  ·intro w' aq;by_cases hp1:pc=1
   ·rw [mU.out,Pc hp1];have dP:ρ.length=0:=by omega
    subst hp1;rw [dP] at *
    go_simp
   rw [mU.out,P7 hp1];have wH:(1:Int)<(pc:Int):=by omega
   have ah2:(1:Int)<=(ρ.length:Int)+1:=by omega
   have ad7:(ρ.length:Int)+1<=(pc:Int):=by omega
   go_simp
  simp only [Act.put,PN,PS,PT];refine Ri (i:=12) (some 28) (v:= .agg #[.int .i64 q.kind,.string ⟨q.name.toArray⟩,.int .i64 q.num,.slice qa q.kids.length qc]) rfl rfl (by kernel_rfl) (by kernel_rfl) (by kernel_rfl) (by kernel_rfl) (by kernel_rfl) (λ_ _ _ h=>h) (Or.inl ⟨by rfl,?_⟩) aw ?_
  ·intro w' aq;obtain ⟨s0,⟨s1,s2,s3,s4⟩,s5,s6,s7,s8⟩:=aq;go_simp
  simp only [Act.put,PN,PS,PT];refine SI (i:=13) (by kernel_rfl) rfl (by kernel_rfl) λK hK=> ?_;go_simp
  (with_reducible refine Pe CI ?_)
  rintro e' w5 ⟨hb5,x',rfl,ua,uc,rfl,hu1,hu2,hu3⟩;obtain ⟨gF,zf⟩:=bu3.out w5 hb5;have HF:Hid _:=tP.out w5 ua uc hb5 hu1 hu2 hu3;refine hK.out _ _ (λ_=>gF) ?_;clear hK K hb5 hu1 hu2 hu3 CI;refine Ri (i:=14) (some 30) (v:= .pointer (some ⟨g3,i*4,none⟩)) rfl rfl (by kernel_rfl) (by kernel_rfl) (by kernel_rfl) (by kernel_rfl) (by kernel_rfl) (λ_ _ _ h=>h) (Or.inl ⟨by rfl,?_⟩) gF ?_
  ·intro w' aq;go_simp
  simp only [Act.put,PN,PS,PT];refine SI (i:=15) (by kernel_rfl) rfl (by kernel_rfl) λK hK=> ?_;obtain ⟨s0,⟨s1,s2,s3,s4⟩,_⟩:=gF;have z0:=zf (i*4);have z1:=zf (i*4+1);have z2:=zf (i*4+2);have z3:=zf (i*4+3);go_simp;refine hK.out _ _ (λh=>absurd rfl h) ?_;clear hK K;refine Yn (by kernel_rfl) ?_ _;obtain ⟨f0,f1,f2,⟨as4,f3⟩,f4,V1,rC,q0,q1,q2,q3,r0,r1,r2,r3,y0,y1,y2,y3,V2,Ft,u0,u1,u2,u3,eI⟩:=HF.out;unfold Rr at f0 f1 f2 f3 f4 rC;have dj:Hid _:=eI;clear eI HF z0 z1 z2 z3 a0 a1 a2 a3 g0 g1 g2 AI s0 s1 s2 s3 s4 zf aw
  go_upto_region 6 with fail
  rw [<-rC];clear rC f0 f1 f2 f3 f4;go_wp2;rw [<-Ft];refine Qv (v:= .agg #[.int .i64 p.kind,.string ⟨p.name.toArray⟩,.int .i64 p.num,.slice (some ⟨g3,0,none⟩) p.kids.length cap3]) (by simp [results,Tryz.results65,go_sem,u0,u1,u2,u3]) rfl ?_;exact dj.out
end
section
variable {k:Kn}{fs:List Pu}{af:List Sp}{w V:World}{T:Array Value}{f:Nat}
theorem Fp (hk:KnOk k fs)(h:together k af=true)(h0:0<(Pg k af).length):((Pg k af)[0].1=[]->∀c∈Pg k af,c.1=[])/\((Pg k af)[0].1≠[]->∀c∈Pg k af,c.2=0/\∃d,look k c.1=some d/\d.1=(O' k (Pg k af)[0].1).1):=by
 obtain ⟨s0,eh,e0,_⟩:=U' hk h (Px h0);obtain ⟨_,m0,_⟩:=SF h s0 eh s0 eh;refine ⟨λhc c aX=> ?_,λhc c aX=> ?_⟩
 ·obtain ⟨s,hs,e,_⟩:=U' hk h aX;obtain ⟨q1,q2,q3⟩:=SF h s hs s0 eh;rcases P' m0 with k0 | k0
  ·rw [e,PA,P7 (by omega)]
  rw [e0,PA,Pc k0] at hc;obtain ⟨d,d1,_⟩:=Tg m0 k0;exact absurd hc (hk.name _ (Su d1))
 obtain ⟨s,hs,e,_⟩:=U' hk h aX;obtain ⟨q1,q2,q3⟩:=SF h s hs s0 eh;have k0:s0.2.kind=4:=by
  rcases P' m0 with e' | e'
  ·exact absurd (by rw [e0,PA,P7 (by omega)]) hc
  exact e'
 obtain ⟨d,d1,_,d3⟩:=Tg q2 (by omega);have e1:c=(s.2.name,0):=by rw [e,PA,Pc (by omega)]
 have e2:(Pg k af)[0].1=s0.2.name:=by rw [e0,PA,Pc k0]
 rw [e1,e2];refine ⟨rfl,d,d1,?_⟩;rw [<-q3 k0,d3]
theorem XP (hk:KnOk k fs)(h:together k af=true)(hc:∀c∈Pg k af,c.1=[]):((Pg k af).map (·.2)).Pairwise (· < ·):=by
 rw [Yu];refine (TS k af (Uf hk h)).1.imp_of_mem λ{a b} ha hb dQ=> ?_;rw [UD,hc a ha,hc b hb] at dQ;rcases dQ with e | e
 ·omega
 exact e.2
theorem Vd {k:Kn}{fs:List Pu}:∀{cs:List Cs}(h0:0<cs.length),cs[0].1≠[]->∀{F:Pu},fs[(O' k cs[0].1).1]? =some F->R8 k fs cs=Pr k (F.1.getD (PJ k cs[0].1 cs 0) [],0)
 | a::r,_,hc,F,hF=>by
  simp only [Yx] at hc hF⊢;unfold R8;dsimp only;rw [P7 hc,hF]
theorem Xq (aF:Po 0 [] fs=some k)(h:together k af=true)(h0:0<(Pg k af).length)(hc:(Pg k af)[0].1≠[])(hf:Ss k fs (Pg k af)=false):
  ∃(fi:Nat) (F:Pu) (e:Nat×Nat),fs[fi]? =some F/\look k (Pg k af)[0].1=some (fi,e)/\∃hG:PJ k (Pg k af)[0].1 (Pg k af) 0<F.1.length,(∀j (hj:j<F.1.length),j<=PJ k (Pg k af)[0].1 (Pg k af) 0->((Pg k af).any λc=>c.1==F.1[j])=decide (j<PJ k (Pg k af)[0].1 (Pg k af) 0))/\
   ∃y:Nat,F.2[PJ k (Pg k af)[0].1 (Pg k af) 0]? =some (y:Int)/\y<=8/\R8 k fs (Pg k af)=(((4:Int),F.1[PJ k (Pg k af)[0].1 (Pg k af) 0],(0:Int)),y):=by
 have hk:=SJ aF;obtain ⟨bh,hG⟩:=Vu hk (MU aF) h h0 hc hf;have aQ:=(Fp hk h h0).2 hc;obtain ⟨_,d0,ll,cg4⟩:=aQ _ (Px h0);have hfi:fs[(O' k (Pg k af)[0].1).1]? =some fs[(O' k (Pg k af)[0].1).1]:=PR bh;generalize hF:fs[(O' k (Pg k af)[0].1).1]=F at *
 have cT:∀c∈Pg k af,F.1[(O' k c.1).2.1]? =some c.1:=λc aX=>by
  obtain ⟨_,d,hd,Bu⟩:=aQ c aX;obtain ⟨F',f1,f2,_⟩:=Ln aF hd;rw [Bu,hfi] at f1;obtain rfl:=Qs f1;have:O' k c.1=d:=by unfold O';rw [hd];rfl
  rw [this];exact f2
 have uN:((Pg k af).map λc=>((O' k c.1).2.1:Int)).Pairwise (· < ·):=by
  rw [Yu];refine (TS k af (Uf hk h)).1.imp_of_mem λ{a b} ha hb dQ=> ?_;rw [UD,(aQ a ha).1,(aQ b hb).1] at dQ;rcases dQ with e | ⟨_,e⟩
  ·omega
  omega
 have J0:=FP k hc (Pg k af) 0;have fx:F.1[PJ k (Pg k af)[0].1 (Pg k af) 0]? =some F.1[PJ k (Pg k af)[0].1 (Pg k af) 0]:=PR hG;obtain ⟨y,hy,Ea,wA⟩:=UE aF hfi fx;refine ⟨(O' k (Pg k af)[0].1).1,F,d0.2,hfi,?_,hG,λj hj C5=> ?_,y.toNat,?_,?_,?_⟩
 ·rw [ll,<-cg4]
 ·rw [Nv,UG,Ol];constructor
  ·rintro ⟨c,aX,he⟩;have he:=Us he;obtain ⟨y',_,_,hl⟩:=UE aF hfi (PR hj);have hp:(O' k c.1).2.1=j:=by unfold O';rw [he,hl];rfl
   have am:((O' k c.1).2.1:Int)≠(Qo ((Pg k af).map λc=>((O' k c.1).2.1:Int)) 0:Int):=MJ _ 0 uN _ (PI.2 ⟨c,aX,rfl⟩);rw [<-J0,hp] at am;omega
  intro hlt;rw [J0] at hlt;obtain ⟨c,aX,he⟩:=PI.1 (K9 _ 0 j (TD _) hlt);have hp:(O' k c.1).2.1=j:=by omega
  have:=cT c aX;rw [hp,PR hj] at this;refine ⟨c,aX,?_⟩;rw [Qs this];exact NR _
 ·rw [hy,Int.toNat_of_nonneg Ea]
 ·have:=WU hk F.1[PJ k (Pg k af)[0].1 (Pg k af) 0];unfold O' at this;rw [wA] at this;exact this
 have am:F.1[PJ k (Pg k af)[0].1 (Pg k af) 0]≠[]:=hk.name _ (Su wA);have fw:(O' k F.1[PJ k (Pg k af)[0].1 (Pg k af) 0]).2.2=y.toNat:=by unfold O';rw [wA];rfl
 have ez:F.1.getD (PJ k (Pg k af)[0].1 (Pg k af) 0) []=F.1[PJ k (Pg k af)[0].1 (Pg k af) 0]:=by rw [UU,fx];rfl
 rw [Vd h0 hc hfi,ez];unfold Pr;rw [P7 am,fw]
theorem EZ:∀(l:List Int) (x:Int) (g:Nat),Qo (l++[x]) g=if x=(Qo l g:Int) then Qo l g+1 else Qo l g
 | [],x,g=>rfl
 | a::r,x,g=>by
  rw [TY];unfold Qo;exact EZ r x _
theorem LH:∀(l:List Int) (g:Nat),Qo l g<=g+l.length
 | [],_=>P6 _
 | x::r,g=>by
  unfold Qo;have:=LH r (if x=(g:Int) then g+1 else g);rw [Rj];by_cases e:x=(g:Int)
  ·rw [Pc e] at this⊢;omega
  rw [P7 e] at this⊢;omega
def SA (w:World)(S:Nat->Prop)(q:Lb×Nat)(v:Value):Prop:=∃ad cap,v= .agg #[.int .i64 q.1.1,.string ⟨q.1.2.1.toArray⟩,.int .i64 q.1.2.2,.slice ad q.2 cap]/\q.1.2.1.length<140737488355328/\Pl w S (.slice ad q.2 cap) (List.replicate q.2 Ta)
def ZP (q:Lb×Nat)(w:World)(r:Ending)(w':World):Prop:=Below w.heap.size w w'/\∃v,r= .returned v/\SA w' (λy=>w.heap.size<=y/\y<w'.heap.size) q v
structure Ox (w:World)(T:Array Value)(V:World):Prop where
 below:Below w.heap.size w V
 tb:V.heap[w.heap.size]? =some (.cells T 30 (0,0))
 rb:V.heap[w.heap.size+1]? =some (.cells WZ 50 (0,0))
theorem Ox.lt (h:Ox w T V):w.heap.size+2<=V.heap.size:=PV h.rb
theorem Ox.on {V':World}(h:Ox w T V)(hb:Below V.heap.size V V'):Ox w T V':=by
 have:=h.lt;exact ⟨h.below.trans (hb.mono h.below.size),(hb.block _ (by omega)).trans h.tb,(hb.block _ (by omega)).trans h.rb⟩
theorem Ox.start (hV:V=(w.alloc (.cells T 30)).alloc (.cells WZ 50)):Ox w T V:=by
 have b1:Below w.heap.size w (w.alloc (.cells T 30)):=(Pb _ _).alloc (P6 _) _;have s1:(w.alloc (.cells T 30)).heap.size=w.heap.size+1:=by simp
 have b2:Below (w.heap.size+1) (w.alloc (.cells T 30)) V:=by rw [hV];exact (Pb _ _).alloc (by omega) _
 refine ⟨b1.trans (b2.mono (by omega)),?_,?_⟩
 ·rw [b2.block _ (by omega)];exact PF w _
 have:=PF (w.alloc (.cells T 30)) (.cells WZ 50);rw [s1,<-hV] at this;exact this
theorem Ox.fin (h:Ox w T V)(q:Lb×Nat)(ad:Option Addr)(cap:Nat)(hn:q.1.2.1.length<140737488355328)(hp:Pl V (λy=>w.heap.size+2<=y/\y<V.heap.size) (.slice ad q.2 cap) (List.replicate q.2 Ta)):
  ∃U,U=(((V.setCell ⟨w.heap.size+1,0,none⟩ (.int .i64 q.1.1)).setCell ⟨w.heap.size+1,1,none⟩ (.string ⟨q.1.2.1.toArray⟩)).setCell ⟨w.heap.size+1,2,none⟩ (.int .i64 q.1.2.2)).setCell ⟨w.heap.size+1,3,none⟩ (.slice ad q.2 cap)/\(U.cell? ⟨w.heap.size+1,0,none⟩=some (.int .i64 q.1.1)/\U.cell? ⟨w.heap.size+1,1,none⟩=some (.string ⟨q.1.2.1.toArray⟩)/\U.cell? ⟨w.heap.size+1,2,none⟩=some (.int .i64 q.1.2.2)/\U.cell? ⟨w.heap.size+1,3,none⟩=some (.slice ad q.2 cap))/\ZP q w (.returned (.agg #[.int .i64 q.1.1,.string ⟨q.1.2.1.toArray⟩,.int .i64 q.1.2.2,.slice ad q.2 cap])) U:=by
 obtain ⟨U,hU,aG,bj,c9,aP⟩:=Z5 h.rb (.int .i64 q.1.1) (.string ⟨q.1.2.1.toArray⟩) (.int .i64 q.1.2.2) (.slice ad q.2 cap);have hlt:=h.lt;refine ⟨U,hU,⟨P5 aG (i:=0) rfl,P5 aG (i:=1) rfl,P5 aG (i:=2) rfl,P5 aG (i:=3) rfl⟩,⟨aP.1.trans h.below.os,aP.2.1.trans h.below.tape,aP.2.2.trans h.below.output,by rw [bj];exact h.below.size,λy hy=>(c9 y (by omega)).trans (h.below.block y hy)⟩,_,rfl,ad,cap,rfl,hn,(hp.on λy hy=>c9 y (by omega)).up λy hy=>⟨by omega,by omega⟩⟩
theorem bp1 (hk:KnOk k fs)(jo:together k af=true)(t:Tr (f+1))(aT:t.2.1.map (·.1)=Pg k af)(h0:0<t.2.1.length)(hc0:t.2.1[0].1.1=[])(bg:t.2.1.length<=200)(w:World)(S:Nat->Prop)(x:Value)(fa:Option Addr)(fc:Nat)(hS:∀y,S y->y<w.heap.size)(hx:PL w S (f+1) x t):
  Calls Tryz.prog 66 #[.slice fa fs.length fc,x] w (ZP (R8 k fs (t.2.1.map (·.1))) w):=by
 obtain ⟨pa,pc,ca,cc,ea,ec,rfl,hN,eP,fz⟩:=hx;obtain ⟨_,_,ce,aK⟩:=Pd.open eP;injection ce with ce _ ch;subst ce ch;clear hN eP fz;have mL:0<(Pg k af).length:=by rw [<-aT];simpa using h0
 have hz:(Pg k af)[0].1=[]:=by
  have:(Pg k af)[0]=t.2.1[0].1:=by simp only [<-aT,R7]
  rw [this];exact hc0
 have aQ:=(Fp hk jo mL).1 hz;have uN:=XP hk jo aQ;rw [<-aT] at aQ uN;have aX:∀j (h:j<t.2.1.length),t.2.1[j].1.1=[]:=λj h=>aQ _ (PI.2 ⟨_,Px h,rfl⟩);obtain ⟨G,hG⟩:∃G,G=Qo ((t.2.1.map (·.1)).map (·.2)) 0:=⟨_,rfl⟩;have AL:Hid (R8 k fs (t.2.1.map (·.1))=((3,[],(G:Int)),0)):=by
  show _=_;rw [hG,<-Es k];cases hl:t.2.1.map (·.1) with
  | nil=>rw [<-Qb (f:=(·.1)),hl] at h0;simp at h0
  | cons a r=>
   have ha:a.1=[]:=aQ a (by rw [hl];simp);unfold R8;dsimp only;rw [Pc ha]
   rfl
 have C6:Hid (Qo ((t.2.1.map (·.1)).map (·.2)) 0=G/\Qo ((t.2.1.map (·.1)).map (·.2)) G=G):=⟨hG.symm,M9 _ _ λx hx=>by rw [hG];exact MJ _ 0 uN x hx⟩;have bw6:G<=200:=by
  have:=LH ((t.2.1.map (·.1)).map (·.2)) 0;rw [hG];simp only [Qb] at this;omega
 clear hG uN aQ hz mL aT jo;rw [AL.out];clear AL;obtain ⟨g,o,rfl,hcc,eR⟩:=aK (λe=>by rw [e] at h0;simp at h0);clear aK;have HS:Hid (∀y,S y->y<w.heap.size):=hS;generalize t.1.1=t0;generalize t.1.2.1=t1;generalize t.1.2.2.length=pl;generalize t.2.2.length=el;have HR:Hid (∀W',Below w.heap.size w W'->∀j (h:j<t.2.1.length),W'.cell? ⟨g,o+j*7,none⟩=some (.string ⟨#[]⟩)/\W'.cell? ⟨g,o+j*7+1,none⟩=some (.int .i64 t.2.1[j].1.2)):=λW' hb j h=>by
  obtain ⟨s0,q0,q1,_⟩:=eR j h;have hk:=OZ.of hb HS.out;rw [aX j h] at q0;exact ⟨(hk.cell (p:=⟨g,o+j*7,none⟩) s0).trans q0,(hk.cell (p:=⟨g,o+j*7+1,none⟩) s0).trans q1⟩
 obtain ⟨W,hW⟩:∃W,W=(w.alloc (Obj.cells #[.int .i64 t0,.int .i64 t1,.slice pa pl pc,.slice (some ⟨g,o,none⟩) t.2.1.length cc,.slice ea el ec] 30)).alloc (.cells WZ 50):=⟨_,rfl⟩;have hx:=Ox.start hW;have HX:Hid _:=hx;have HT:Hid (∀W',Below W.heap.size W W'->Ox w #[.int .i64 t0,.int .i64 t1,.slice pa pl pc,.slice (some ⟨g,o,none⟩) t.2.1.length cc,.slice ea el ec] W'/\W'.cell? ⟨w.heap.size,3,none⟩=some (.slice (some ⟨g,o,none⟩) t.2.1.length cc)):=λW' hb=>⟨HX.out.on hb,P5 (HX.out.on hb).tb (i:=3) rfl⟩;have c3:=(HT.out W (Pb _ _)).2;have q0:=(HR.out W hx.below 0 h0).1;rw [Uk,TO] at q0;have l0:(0:Int)<(t.2.1.length:Int):=by omega
 clear hx eR aX hS;obtain ⟨ns,pQ⟩:∃ns:List Int,ns=(t.2.1.map (·.1)).map (·.2):=⟨_,rfl⟩;have mM:Hid (ns.length=t.2.1.length/\∀j (h:j<t.2.1.length) (h':j<ns.length),ns[j]=t.2.1[j].1.2):=by
  subst pQ;exact ⟨by simp,λj h h'=>by simp⟩
 rw [<-pQ] at C6;clear pQ;have ik:Hid (∀(j g:Nat),Qo (ns.take j) g<=g+200):=λj g=>by
  have:=LH (ns.take j) g;rw [RW] at this;have:=mM.out.1;omega
 go_enter Tryz.func66,Tryz.ntmps66
 go_upto_region 1 with fail
 rw [<-hW];clear hW;go_wp2;clear q0 c3
 go_loopw [5,6] (λnv iv wr=>∃i m:Nat,i<=t.2.1.length/\iv= .int .i64 i/\nv= .int .i64 m/\m<=200/\Hid (m=if i=0 then 0 else G)/\Hid (Below W.heap.size W wr)) (λ_ iv _=>t.2.1.length-(intOf iv).toNat)
 case atStart=>exact ⟨0,0,by omega,by go_num,by go_num,by omega,rfl,Pb _ _⟩
 obtain ⟨i,m,hi,rfl,rfl,hm,HM,HB⟩:=hrel;obtain ⟨gT,c3⟩:=HT.out wr HB.out;by_cases ag:i<t.2.1.length
 ·have i2:(i:Int)<(t.2.1.length:Int):=by omega
  have HBR:Hid (Below W.heap.size W wr):=HB.out;clear gT HB;go_wp2;clear c3
  go_loopw [5,7] (λnv jv wr=>∃j:Nat,j<=t.2.1.length/\jv= .int .i64 j/\nv= .int .i64 (Qo (ns.take j) m:Nat)/\Hid (Below W.heap.size W wr)) (λ_ jv _=>t.2.1.length-(intOf jv).toNat)
  case atStart=>exact ⟨0,by omega,by go_num,by simp [Qo],HBR.out⟩
  obtain ⟨j,hj,rfl,rfl,HB⟩:=hrel;obtain ⟨gT,c3⟩:=HT.out wr HB.out;by_cases cO:j<t.2.1.length
  ·have J1:j<ns.length:=by rw [mM.out.1];exact cO
   have q1:=(HR.out wr gT.below j cO).2;rw [<-mM.out.2 j cO J1] at q1;have bu:Hid (Qo (ns.take (j+1)) m=if ns[j]=(Qo (ns.take j) m:Int) then Qo (ns.take j) m+1 else Qo (ns.take j) m):=by
    show _=_;rw [S1,PR J1];exact EZ _ _ _
   have kf:=ik.out j m;have j1:(0:Int)<=(j:Int):=by omega
   have j2:(j:Int)<(t.2.1.length:Int):=by omega
   clear gT;generalize ns[j]=x at *
   generalize Qo (ns.take j) m=z at *
   by_cases he:x=(z:Int)
   ·subst he;have bQ:Hid (Qo (ns.take (j+1)) m=z+1):=by
     have:=bu.out
     rwa [Pc rfl] at this
    clear bu;go_wp2;exact ⟨⟨j+1,cO,by go_num,by rw [bQ.out];go_num,HB.out⟩,by simp [intOf];omega⟩
   have bQ:Hid (Qo (ns.take (j+1)) m=z):=by
    have:=bu.out
    rwa [P7 he] at this
   clear bu;go_wp2;exact ⟨⟨j+1,cO,by go_num,by rw [bQ.out],HB.out⟩,by simp [intOf];omega⟩
  obtain rfl:j=t.2.1.length:=by omega
  have bw7:Hid (Qo (ns.take t.2.1.length) m=G):=by
   show _=_;rw [Xi (by rw [mM.out.1];exact P6 _),HM.out];split
   ·exact C6.out.1
   exact C6.out.2
  clear gT;go_wp2;exact ⟨⟨i+1,G,ag,by go_num,by rw [bw7.out],bw6,by rw [P7 (by omega)];rfl,HB.out⟩,by simp [intOf];omega⟩
 obtain rfl:i=t.2.1.length:=by omega
 have ba7:m=G:=by rw [HM.out,P7 (by omega)]
 subst ba7;obtain ⟨U,hU,⟨u0,u1,u2,u3⟩,eI⟩:=gT.fin ((3,[],(m:Int)),0) none 0 (by simp) (.inl ⟨rfl,_,_,rfl⟩);have dj:Hid _:=eI;have r0:=P5 gT.rb (i:=0) rfl;have r1:=P5 gT.rb (i:=1) rfl;have r2:=P5 gT.rb (i:=2) rfl;have r3:=P5 gT.rb (i:=3) rfl;have f0:=Pp (o:=0) gT.rb;have f1:=Pp (o:=1) gT.rb;have f2:=Pp (o:=2) gT.rb;have f3:=Pp (o:=3) gT.rb;clear eI gT C6 HM HT;go_wp2;rw [<-hU];refine Qv (v:= .agg #[.int .i64 3,.string ⟨#[]⟩,.int .i64 m,.slice none 0 0]) (by simp [results,Tryz.results66,go_sem,u0,u1,u2,u3]) rfl ?_;exact dj.out
theorem bq1 (aF:Po 0 [] fs=some k)(aY:fs.length<=10000)(jo:together k af=true)(cA:Ss k fs (Pg k af)=false)(t:Tr (f+1))(aT:t.2.1.map (·.1)=Pg k af)(h0:0<t.2.1.length)(hc0:t.2.1[0].1.1≠[])(bg:t.2.1.length<=200)(w:World)(S:Nat->Prop)(x:Value)(fa:Option Addr)(fc:Nat)(hS:∀y,S y->y<w.heap.size)(hF:PH w S (.slice fa fs.length fc) fs)(hx:PL w S (f+1) x t):
  Calls Tryz.prog 66 #[.slice fa fs.length fc,x] w (ZP (R8 k fs (t.2.1.map (·.1))) w):=by
 obtain ⟨pa,pc,ca,cc,ea,ec,rfl,hN,eP,fz⟩:=hx;obtain ⟨_,_,ce,aK⟩:=Pd.open eP;injection ce with ce _ ch;subst ce ch;clear hN eP fz;have mL:0<(Pg k af).length:=by rw [<-aT];simpa using h0
 have hz:(Pg k af)[0].1=t.2.1[0].1.1:=by
  have:(Pg k af)[0]=t.2.1[0].1:=by simp only [<-aT,R7]
  rw [this]
 obtain ⟨fi,F,e,iG,fw,hG,AM,y,hy,Hd,J2⟩:=Xq aF jo mL (by rw [hz];exact hc0) cA;rw [aT,J2];rw [hz] at fw;generalize cl3:PJ k (Pg k af)[0].1 (Pg k af) 0=G at *
 have ak7:fi<fs.length:=(Tt.1 iG).1;have Fy:F.1≠[]/\F.2.length=F.1.length/\F.1.length<=24:=⟨Nd fs 0 [] k aF _ (Tf iG),(UC fs 0 [] k aF _ (Tf iG)).2,(UC fs 0 [] k aF _ (Tf iG)).1⟩;obtain ⟨gf,of,gs,os,sc,gi,oi,ic,rfl,tu,lK,pU,pV,DS,vL,d0,d1,d2,d3⟩:=Jr hF iG Fy.1 Fy.2.1;have HS:Hid (∀y,S y->y<w.heap.size):=hS;have mE:Hid (∀W',Below w.heap.size w W'->W'.cell? ⟨gf,of+fi*2,none⟩=some (.slice (some ⟨gs,os,none⟩) F.1.length sc)/\W'.cell? ⟨gf,of+fi*2+1,none⟩=some (.slice (some ⟨gi,oi,none⟩) F.2.length ic)/\(∀j (h:j<F.1.length),W'.cell? ⟨gs,os+j,none⟩=some (.string ⟨F.1[j].toArray⟩))/\∀j (h:j<F.2.length),W'.cell? ⟨gi,oi+j,none⟩=some (.int .i64 F.2[j])):=λW' aj=>by
  have hk:=OZ.of aj HS.out;exact ⟨(hk.cell (p:=⟨gf,of+fi*2,none⟩) lK).trans d0,(hk.cell (p:=⟨gf,of+fi*2+1,none⟩) lK).trans d1,λj h=>(hk.cell (p:=⟨gs,os+j,none⟩) pU).trans (d2 j h).1,λj h=>(hk.cell (p:=⟨gi,oi+j,none⟩) pV).trans (d3 j h)⟩
 have cn5:F.1[G].length<140737488355328:=(d2 G hG).2;have bd3:Hid (∀h:G<F.2.length,F.2[G]=(y:Int)):=λh=>(Tt.1 hy).2;obtain ⟨g,o,rfl,hcc,eR⟩:=aK (λe=>by rw [e] at h0;simp at h0);have HR:Hid (∀W',Below w.heap.size w W'->∀j (h:j<t.2.1.length),W'.cell? ⟨g,o+j*7,none⟩=some (.string ⟨t.2.1[j].1.1.toArray⟩)):=λW' hb j h=>by
  obtain ⟨s0,q0,q1,_⟩:=eR j h;exact ((OZ.of hb HS.out).cell (p:=⟨g,o+j*7,none⟩) s0).trans q0
 have AN:Hid (∀j (hj:j<F.1.length),j<=G->(t.2.1.any λc=>c.1.1==F.1[j])=decide (j<G)):=λj hj C5=>by
  rw [<-AM j hj C5,<-aT,List.any_map]
  rfl
 have ot:Hid (∀W',Below w.heap.size w W'->Calls Tryz.prog 42 #[.slice (some ⟨gf,of,none⟩) fs.length fc,.string ⟨t.2.1[0].1.1.toArray⟩] W' λr w'=>w'=W'/\r= .returned (.tuple #[.int .i64 fi,.int .i64 e.1])):=λW' hb=>by
  refine (Kq (S:=S) fs _ _ _ (hF.on (OZ.of hb HS.out)) aY (λf hf=>by have:=(UC fs 0 [] k aF f hf).1;omega)).mono λr w' h=> ?_;have:=Lk aF h;rw [fw] at this;exact this
 clear aK eR AM J2 hy fw hz mL aT iG hF jo cA aF d0 d1 d2 d3 lK pU pV hS cl3;generalize t.1.1=t0;generalize t.1.2.1=t1;generalize t.1.2.2.length=pl;generalize t.2.2.length=el;obtain ⟨W,hW⟩:∃W,W=(w.alloc (Obj.cells #[.int .i64 t0,.int .i64 t1,.slice pa pl pc,.slice (some ⟨g,o,none⟩) t.2.1.length cc,.slice ea el ec] 30)).alloc (.cells WZ 50):=⟨_,rfl⟩;have hx:=Ox.start hW;have HX:Hid _:=hx;have HT:Hid (∀W',Below W.heap.size W W'->Ox w #[.int .i64 t0,.int .i64 t1,.slice pa pl pc,.slice (some ⟨g,o,none⟩) t.2.1.length cc,.slice ea el ec] W'/\W'.cell? ⟨w.heap.size,3,none⟩=some (.slice (some ⟨g,o,none⟩) t.2.1.length cc)):=λW' hb=>⟨HX.out.on hb,P5 (HX.out.on hb).tb (i:=3) rfl⟩;have c3:=(HT.out W (Pb _ _)).2;have q0:=HR.out W hx.below 0 h0;rw [Uk,TO] at q0;have pX:=ot.out W hx.below;have l0:(0:Int)<(t.2.1.length:Int):=by omega
 have n0:List.isEmpty t.2.1[0].1.1=false:=by simpa using hc0
 obtain ⟨br7,aj5,as2⟩:=Fy;clear hx ot br7;generalize t.2.1[0].1.1=al5 at *
 have f1:(0:Int)<=(fi:Int):=by omega
 have f2:(fi:Int)<(fs.length:Int):=by omega
 go_enter Tryz.func66,Tryz.ntmps66
 go_upto_region 1 with fail
 rw [<-hW];clear hW
 go_wp2_with (first | (go_at_call 42;(with_reducible refine Pe pX ?_);rintro e' w3 ⟨hw3,rfl⟩;subst w3))
 clear q0 c3 pX
 go_loopw [10] (λkv wr=>∃j:Nat,j<=G/\kv= .int .i64 j/\Hid (Below W.heap.size W wr)) (λkv _=>G-(intOf kv).toNat)
 case atStart=>exact ⟨0,by omega,by go_num,Pb _ _⟩
 obtain ⟨j,C5,rfl,HB⟩:=hrel;obtain ⟨gT,c3⟩:=HT.out wr HB.out;obtain ⟨c0,c1,c2,c4⟩:=mE.out wr gT.below;have J4:j<F.1.length:=by omega
 have j1:(0:Int)<=(j:Int):=by omega
 have j2:(j:Int)<(F.1.length:Int):=by omega
 have HBR:Hid (Below W.heap.size W wr):=HB.out;have FA:Hid _:=AN.out j J4 C5;have gL:Hid (∀W',Below W.heap.size W W'->W'.cell? ⟨w.heap.size,3,none⟩=some (.slice (some ⟨g,o,none⟩) t.2.1.length cc)/\W'.cell? ⟨gf,of+fi*2,none⟩=some (.slice (some ⟨gs,os,none⟩) F.1.length sc)/\W'.cell? ⟨gs,os+j,none⟩=some (.string ⟨F.1[j].toArray⟩)):=λW' hb=>by
  obtain ⟨h1,h2⟩:=HT.out W' hb;obtain ⟨e0,e1,e2,e4⟩:=mE.out W' h1.below;exact ⟨h2,e0,e2 j J4⟩
 clear c2 c4 gT HB c3;generalize aw5:F.1[j]=nj at *
 go_wp2;clear c0 c1
 go_loopw [11,12] (λhv iv wr=>∃i:Nat,i<=t.2.1.length/\iv= .int .i64 i/\hv= .bool ((t.2.1.take i).any λc=>c.1.1==nj)/\Hid (Below W.heap.size W wr)) (λ_ iv _=>t.2.1.length-(intOf iv).toNat)
 case atStart=>exact ⟨0,by omega,by go_num,by simp,HBR.out⟩
 obtain ⟨i,hi,rfl,rfl,HB⟩:=hrel;obtain ⟨c3,c0,c2⟩:=gL.out wr HB.out;by_cases ag:i<t.2.1.length
 ·have q1:=HR.out wr (HT.out wr HB.out).1.below i ag;have bu:Hid ((t.2.1.take (i+1)).any (λc=>c.1.1==nj)=((t.2.1.take i).any (λc=>c.1.1==nj) || (t.2.1[i].1.1==nj))):=by
   show _=_;rw [S1,PR ag,N8];simp
  have i1:(0:Int)<=(i:Int):=by omega
  have i2:(i:Int)<(t.2.1.length:Int):=by omega
  generalize t.2.1[i].1.1=ni at *
  generalize (t.2.1.take i).any (λc=>c.1.1==nj)=b at *
  cases b with
  | true=>
   have bQ:Hid ((t.2.1.take (i+1)).any (λc=>c.1.1==nj)=true):=bu.out;clear bu
   go_upto_region 20 with fail
   go_quiet (fail)
   go_wp2;exact ⟨⟨i+1,ag,by go_num,by rw [bQ.out],HB.out.more _⟩,by simp [intOf];omega⟩
  | false=>
   cases hb:(ni==nj) with
   | true=>
    have bQ:Hid ((t.2.1.take (i+1)).any (λc=>c.1.1==nj)=true):=by
     have:=bu.out
     rwa [hb] at this
    clear bu
    go_upto_region 20 with fail
    go_quiet (fail)
    go_wp2;exact ⟨⟨i+1,ag,by go_num,by rw [bQ.out],HB.out.more _⟩,by simp [intOf];omega⟩
   | false=>
    have bQ:Hid ((t.2.1.take (i+1)).any (λc=>c.1.1==nj)=false):=by
     have:=bu.out
     rwa [hb] at this
    clear bu
    go_upto_region 20 with fail
    go_quiet (fail)
    go_wp2;exact ⟨⟨i+1,ag,by go_num,by rw [bQ.out],HB.out.more _⟩,by simp [intOf];omega⟩
 obtain rfl:i=t.2.1.length:=by omega
 rw [QM];by_cases hlt:j<G
 ·have FB:Hid ((t.2.1.any λc=>c.1.1==nj)=true):=by
   have:=FA.out
   rwa [T7 hlt] at this
  rw [FB.out];go_wp2;exact ⟨⟨j+1,hlt,by go_num,HB.out⟩,by simp [intOf];omega⟩
 obtain rfl:j=G:=by omega
 have FB:Hid ((t.2.1.any λc=>c.1.1==nj)=false):=by
  have:=FA.out
  rwa [Ti hlt] at this
 rw [FB.out];obtain ⟨gT,_⟩:=HT.out wr HB.out;obtain ⟨_,d1,_,d4⟩:=mE.out wr gT.below;have eX:j<F.2.length:=by omega
 replace d4:=d4 j eX;rw [bd3.out eX] at d4;have AO:=NW (w:=wr) (λ_=>False) y (λ_ h=>h.elim) (by omega);have J5:Hid (∀w6,Below wr.heap.size wr w6->w6.cell? ⟨gf,of+fi*2,none⟩=some (.slice (some ⟨gs,os,none⟩) F.1.length sc)/\w6.cell? ⟨gs,os+j,none⟩=some (.string ⟨nj.toArray⟩)/\Ox w #[.int .i64 t0,.int .i64 t1,.slice pa pl pc,.slice (some ⟨g,o,none⟩) t.2.1.length cc,.slice ea el ec] w6):=λw6 hb=>by
  have h1:=HB.out.trans (hb.mono HB.out.size);exact ⟨(gL.out w6 h1).2.1,(gL.out w6 h1).2.2,(HT.out w6 h1).1⟩
 have aj6:(j:Int)<(F.2.length:Int):=by omega
 have cj7:Hid (w.heap.size+2<=wr.heap.size):=gT.lt;clear gT c3 gL HT mE FA AN
 go_upto_region 23 with (first | (go_at_call 47;(with_reducible refine Pe AO ?_);rintro e' w6 ⟨v6,rfl,hb6,O6⟩;obtain ⟨qe,gG,e6⟩:=Own.len O6;rw [Tq] at e6;subst e6;obtain ⟨b0,b1,i9⟩:=J5.out w6 hb6))
 have bb2:Hid (Pl w6 (λy=>w.heap.size+2<=y/\y<w6.heap.size) (.slice qe y gG) (List.replicate y Ta)):=by
  have h1:=(Pi.rowE O6).toPats;refine h1.up λz hz=> ?_;have h2:=cj7.out;rcases hz with hz | hz | hz
  ·omega
  ·exact hz.elim
  omega
 obtain ⟨U,hU,⟨u0,u1,u2,u3⟩,eI⟩:=i9.fin ((4,nj,0),y) qe gG (by rw [<-aw5];exact cn5) bb2.out;have dj:Hid _:=eI;have r0:=P5 i9.rb (i:=0) rfl;have r1:=P5 i9.rb (i:=1) rfl;have r2:=P5 i9.rb (i:=2) rfl;have r3:=P5 i9.rb (i:=3) rfl;have g0:=Pp (o:=0) i9.rb;have g1:=Pp (o:=1) i9.rb;have g2:=Pp (o:=2) i9.rb;have g3:=Pp (o:=3) i9.rb;clear eI i9 AO J5 hb6 O6 d1 d4;go_wp2;rw [<-hU];refine Qv (v:= .agg #[.int .i64 4,.string ⟨nj.toArray⟩,.int .i64 0,.slice qe y gG]) (by simp [results,Tryz.results66,go_sem,u0,u1,u2,u3]) rfl ?_;exact dj.out
theorem br1 (aF:Po 0 [] fs=some k)(aY:fs.length<=10000)(t:Tr (f+1))(h:∃af,af≠[]/\together k af=true/\t.2.1.map (·.1)=Pg k af/\Ss k fs (Pg k af)=false)(bg:t.2.1.length<=200)(w:World)(S:Nat->Prop)(x:Value)(fa:Option Addr)(fc:Nat)(hS:∀y,S y->y<w.heap.size)(hF:PH w S (.slice fa fs.length fc) fs)(hx:PL w S (f+1) x t):
  Calls Tryz.prog 66 #[.slice fa fs.length fc,x] w (ZP (R8 k fs (t.2.1.map (·.1))) w):=by
 obtain ⟨af,h1,h2,h3,h4⟩:=h;have h0:0<t.2.1.length:=by
  have:=Nm (fs:=fs) (SJ aF) h2 h1;rw [<-h3] at this;simpa using this
 by_cases hc:t.2.1[0].1.1=[]
 ·exact bp1 (SJ aF) h2 t h3 h0 hc bg w S x fa fc hS hx
 exact bq1 aF aY h2 h4 t h3 h0 hc bg w S x fa fc hS hF hx
end
