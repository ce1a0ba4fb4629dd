import Derived.Test.YtpdmkhnonbbhnaaGreatJj
import Derived.Test.YtpdmkhnonbbhnaaGreatMzx
import Derived.Test.YtpdmkhnonbbhnaaGreatMDx
namespace Go.Proofs.YtpdmkhnonbbhnaaGreat
open Go.RowKit Go.Maps
variable {w wr:World}{fs:List Pu}{es:List Fe}{g e lo G C gb o i p q c F:Nat}{cur:Array Value}
theorem Xl:∀(es:List Fe),(Sj es).Nodup->∀i j (hi:i<es.length) (hj:j<es.length),(es[i].1=es[j].1->i=j)/\(es[i].2.2.1=es[j].2.2.1->i=j)/\es[i].1≠es[j].2.2.1
 | [],_,i,_,hi,_=>by simp at hi
 | e::r,h,i,j,hi,hj=>by
  have hc:Sj (e::r)=[e.1,e.2.2.1]++Sj r:=by unfold Sj;rw [Y5]
  rw [hc,S7] at h;obtain ⟨h1,h2,h3⟩:=h;have h4:e.1≠e.2.2.1:=by simpa using h1
  have k1:∀q (hq:q<r.length),e.1≠r[q].1/\e.1≠r[q].2.2.1/\e.2.2.1≠r[q].1/\e.2.2.1≠r[q].2.2.1:=λq hq=>⟨h3 _ (by simp) _ (WA.2 ⟨q,hq,.inl rfl⟩),h3 _ (by simp) _ (WA.2 ⟨q,hq,.inr rfl⟩),h3 _ (by simp) _ (WA.2 ⟨q,hq,.inl rfl⟩),h3 _ (by simp) _ (WA.2 ⟨q,hq,.inr rfl⟩)⟩;cases i with
  | zero=>
   cases j with
   | zero=>exact ⟨λ_=>rfl,λ_=>rfl,h4⟩
   | succ j=>
    have:=k1 j (by simpa using hj);exact ⟨λq=>absurd q this.1,λq=>absurd q this.2.2.2,this.2.1⟩
  | succ i=>
   cases j with
   | zero=>
    have:=k1 i (by simpa using hi);exact ⟨λq=>absurd q.symm this.1,λq=>absurd q.symm this.2.2.2,λq=>this.2.2.1 q.symm⟩
   | succ j=>
    obtain ⟨a,b,c⟩:=Xl r h2 i j (by simpa using hi) (by simpa using hj);exact ⟨λq=>by rw [a q],λq=>by rw [b q],c⟩
def Kj:Qg:=[115,112,111,105,108,116]
def Sh (f:Pu):Pu:=(List.replicate f.1.length Kj,List.replicate f.2.length (-9))
structure Fsp (fs:List Pu)(es:List Fe)(w:World)(i p q:Nat)(wr:World):Prop where
 kx:KxB (Sj es) w wr
 bc:∀j (_:j<es.length) (_:j<fs.length),∃cur,wr.heap[es[j].1]? =some (.cells cur 9 (0,0))/\fs[j].1.length<=cur.size
 bf:∀j (_:j<es.length) (_:j<fs.length),∃cur,wr.heap[es[j].2.2.1]? =some (.cells cur 3 (0,0))/\fs[j].2.length<=cur.size
 dc:∀j (_:j<es.length) (_:j<fs.length) c,c<fs[j].1.length->(j<i\/(j=i/\c<p))->wr.cell? ⟨es[j].1,c,none⟩=some (.string ⟨#[115,112,111,105,108,116]⟩)
 df:∀j (_:j<es.length) (_:j<fs.length) c,c<fs[j].2.length->(j<i\/(j=i/\c<q))->wr.cell? ⟨es[j].2.2.1,c,none⟩=some (.int .i64 (-9))
theorem Mz {base n:Nat}{xs:List Value}(h:w.ownsRow base e 1 (.slice (some ⟨g,0,none⟩) n c) n xs):∃cur,w.heap[g]? =some (.cells cur e (0,0))/\n<=cur.size:=by
 rcases h.2 with ⟨h2,_⟩ | ⟨g',cap,cur,h2,h3,h4,h5,h6,h7,h8⟩
 ·cases h2
 obtain ⟨e1,_,_⟩:=RM h2;injection e1 with e1;injection e1 with e1;subst e1;exact ⟨cur,h4,by omega⟩
theorem Fsp.start (h:Laid lo fs G C gb es w):Fsp fs es w 0 0 0 w:=by
 refine ⟨KxB.refl _ _,λj hj aJ=> ?_,λj hj aJ=> ?_,λj _ _ c _ q=>by omega,λj _ _ c _ q=>by omega⟩
 ·obtain ⟨cur,h1,h2⟩:=Mz (h.fl.con j hj aJ);exact ⟨cur,h1,by omega⟩
 obtain ⟨cur,h1,h2⟩:=Mz (h.fl.fld j hj aJ);exact ⟨cur,h1,by omega⟩
theorem VT (v:Value){bs:List Nat}(h:g∈bs):KxB bs w (w.setCell ⟨g,o,none⟩ v):=⟨rfl,rfl,rfl,by simp [World.setCell],λy _ hy=>PX _ _ _ _ λe=>hy (by rw [show y=g from e];exact h)⟩
theorem Kg (v:Value)(h:w.heap[g]? =some (.cells cur e (0,0)))(ho:o<cur.size):(w.setCell ⟨g,o,none⟩ v).cell? ⟨g,o,none⟩=some v:=P0 (Q5 (i:=o) (v:=v) h) (by simp [ho])
theorem Mp (v:Value)(h:w.heap[g]? =some (.cells cur e (0,0)))(ho:o≠c)(hc:c<cur.size):(w.setCell ⟨g,o,none⟩ v).cell? ⟨g,c,none⟩=w.cell? ⟨g,c,none⟩:=by
 rw [P0 h (Rm hc)];exact P0 (Q5 (i:=o) (v:=v) h) (by rw [Array.getElem?_setIfInBounds_ne ho];exact Rm hc)
theorem Fsp.putc (hn:(Sj es).Nodup)(h:Fsp fs es w i p q wr)(hi:i<es.length)(aB:i<fs.length)(hp:p<fs[i].1.length):Fsp fs es w i (p+1) q (wr.setCell ⟨es[i].1,p,none⟩ (.string ⟨#[115,112,111,105,108,116]⟩)):=by
 obtain ⟨cur,b1,b2⟩:=h.bc i hi aB;have cM:∀y,y≠es[i].1->(wr.setCell ⟨es[i].1,p,none⟩ (.string ⟨#[115,112,111,105,108,116]⟩)).heap[y]? =wr.heap[y]? :=λy hy=>PX _ _ _ _ hy;refine ⟨h.kx.trans (VT _ (WA.2 ⟨i,hi,.inl rfl⟩)),λj hj aJ=> ?_,λj hj aJ=> ?_,λj hj aJ c hc hl=> ?_,λj hj aJ c hc hl=> ?_⟩
 ·by_cases e:j=i
  ·subst e;exact ⟨_,Q5 b1,by simpa using b2⟩
  obtain ⟨cur',c1,c2⟩:=h.bc j hj aJ;exact ⟨cur',(cM _ λq=>e ((Xl es hn j i hj hi).1 q)).trans c1,c2⟩
 ·obtain ⟨cur',c1,c2⟩:=h.bf j hj aJ;exact ⟨cur',(cM _ λq=>(Xl es hn i j hi hj).2.2 q.symm).trans c1,c2⟩
 ·by_cases e:j=i
  ·subst e;by_cases ec:c=p
   ·subst ec;exact Kg _ b1 (by omega)
   rw [Mp _ b1 (by omega) (by omega)];exact h.dc j hj aJ c hc (by omega)
  rw [Qm (cM _ λq=>e ((Xl es hn j i hj hi).1 q))];exact h.dc j hj aJ c hc (by omega)
 rw [Qm (cM _ λq=>(Xl es hn i j hi hj).2.2 q.symm)];exact h.df j hj aJ c hc hl
theorem Fsp.putf (hn:(Sj es).Nodup)(h:Fsp fs es w i p q wr)(hi:i<es.length)(aB:i<fs.length)(hp:q<fs[i].2.length):Fsp fs es w i p (q+1) (wr.setCell ⟨es[i].2.2.1,q,none⟩ (.int .i64 (-9))):=by
 obtain ⟨cur,b1,b2⟩:=h.bf i hi aB;have cM:∀y,y≠es[i].2.2.1->(wr.setCell ⟨es[i].2.2.1,q,none⟩ (.int .i64 (-9))).heap[y]? =wr.heap[y]? :=λy hy=>PX _ _ _ _ hy;refine ⟨h.kx.trans (VT _ (WA.2 ⟨i,hi,.inr rfl⟩)),λj hj aJ=> ?_,λj hj aJ=> ?_,λj hj aJ c hc hl=> ?_,λj hj aJ c hc hl=> ?_⟩
 ·obtain ⟨cur',c1,c2⟩:=h.bc j hj aJ;exact ⟨cur',(cM _ λq=>(Xl es hn j i hj hi).2.2 q).trans c1,c2⟩
 ·by_cases e:j=i
  ·subst e;exact ⟨_,Q5 b1,by simpa using b2⟩
  obtain ⟨cur',c1,c2⟩:=h.bf j hj aJ;exact ⟨cur',(cM _ λq=>e ((Xl es hn j i hj hi).2.1 q)).trans c1,c2⟩
 ·rw [Qm (cM _ λq=>(Xl es hn j i hj hi).2.2 q)];exact h.dc j hj aJ c hc hl
 by_cases e:j=i
 ·subst e;by_cases ec:c=q
  ·subst ec;exact Kg _ b1 (by omega)
  rw [Mp _ b1 (by omega) (by omega)];exact h.df j hj aJ c hc (by omega)
 rw [Qm (cM _ λq=>e ((Xl es hn j i hj hi).2.1 q))];exact h.df j hj aJ c hc (by omega)
theorem Fsp.next (h:Fsp fs es w i p q wr)(aB:i<fs.length)(hp:fs[i].1.length<=p)(hq:fs[i].2.length<=q):Fsp fs es w (i+1) 0 0 wr:=by
 refine ⟨h.kx,h.bc,h.bf,λj hj aJ c hc hl=>h.dc j hj aJ c hc ?_,λj hj aJ c hc hl=>h.df j hj aJ c hc ?_⟩
 ·by_cases e:j=i
  ·subst e;omega
  omega
 by_cases e:j=i
 ·subst e;omega
 omega
theorem Laid.gcell (h:Laid lo fs G C gb es w)(hk:KxB (Sj es) w wr):wr.heap[G]? =w.heap[G]? :=hk.block G (h.out.lt G rfl).2 h.ap.1
theorem Fsp.fams (h0:Laid lo fs G C gb es w)(h:Fsp fs es w fs.length 0 0 wr){S:Nat->Prop}(hS:∀y,(y=G\/y∈Sj es)->S y):PH wr S (.slice (some ⟨G,0,none⟩) fs.length C) (fs.map Sh):=by
 by_cases vJ:fs=[]
 ·subst vJ;exact .inl ⟨rfl,some ⟨G,0,none⟩,C,rfl⟩
 refine .inr ⟨G,0,C,by rw [Qb],by simpa using vJ,by rw [Qb];have:=X' h0.out;omega,λj hj=> ?_⟩;rw [Qb] at hj;have aJ:j<es.length:=by rw [h0.len];exact hj
 have ha:=h0.at hj aJ;have hg:=h0.gcell h.kx;rw [R7,Rp];refine ⟨hS G (.inl rfl),⟨some ⟨es[j].1,0,none⟩,es[j].2.1,?_,?_⟩,some ⟨es[j].2.2.1,0,none⟩,es[j].2.2.2,?_,?_⟩
 ·rw [Qm hg,ha.c0];simp [Sh]
 ·by_cases e0:fs[j].1.length=0
  ·have qt:(Sh fs[j]).1=[]:=by simp [Sh,e0]
   exact .inl ⟨qt,some ⟨es[j].1,0,none⟩,es[j].2.1,by rw [qt];rfl⟩
  refine .inr ⟨es[j].1,0,es[j].2.1,rfl,λq=>e0 (by simpa [Sh] using q),by have:=ha.rc;simp [Sh];omega,λc hc=> ?_⟩;have di:c<fs[j].1.length:=by simpa [Sh] using hc
  refine ⟨hS _ (.inr (WA.2 ⟨j,aJ,.inl rfl⟩)),?_,?_⟩
  ·rw [Rp,R4,h.dc j aJ hj c di (.inl hj)];simp [Sh,Kj]
  simp [Sh,Kj]
 ·rw [Qm hg,ha.c1];simp [Sh]
 by_cases e0:fs[j].2.length=0
 ·have qt:(Sh fs[j]).2=[]:=by simp [Sh,e0]
  exact .inl ⟨qt,some ⟨es[j].2.2.1,0,none⟩,es[j].2.2.2,by rw [qt];rfl⟩
 refine .inr ⟨es[j].2.2.1,0,es[j].2.2.2,rfl,λq=>e0 (by simpa [Sh] using q),by have:=ha.rf;simp [Sh];omega,λc hc=> ?_⟩;have di:c<fs[j].2.length:=by simpa [Sh] using hc
 refine ⟨hS _ (.inr (WA.2 ⟨j,aJ,.inr rfl⟩)),?_⟩;rw [Rp,R4,h.df j aJ hj c di (.inl hj)];simp [Sh]
theorem Nk {S:Nat->Prop}{p:Tr F×Cv F}(hf:Fine F p.1 p.2)(hS:∀y,S y->y<w.heap.size){x x':Value}{a1:Option Addr}{c1:Nat}{a2:Option Addr}{c2:Nat}{a3:Option Addr}{c3:Nat}{a4:Option Addr}{c4:Nat}(h1:An F w S p x a1 c1 a2 c2)(h2:An F w S p x' a3 c3 a4 c4):
  (Calls Tryz.prog 10 #[x,x'] w λr w'=>r= .returned (.bool true)/\Below w.heap.size w w')/\Calls Tryz.prog 11 #[Se p a1 c1 a2 c2,Se p a3 c3 a4 c4] w λr w'=>r= .returned (.bool true)/\Below w.heap.size w w':=by
 refine ⟨yV F p.1 hf.sm hf.short w S _ _ hS h1.1 h2.1,?_⟩;have hi:=hf.idle;have hm:=hf.miss;have:=V3 (F+2) p.2.1 p.2.2.1 (p.2.2.2.map λu=>(⟨F+1,u⟩:Pt)) a1 a3 a2 a4 c1 c3 c2 c4 hS (by omega) (by rw [Qb];omega) (λq hq=>by obtain ⟨u,_,rfl⟩:=PI.1 hq;show F+1<_;omega) h1.2.1 h2.2.1 (by rw [Qb];exact h1.2.2) (by rw [Qb];exact h2.2.2);rw [Qb] at this;exact this
theorem Vg (hF:0<F){fs:List Pu}{rows:List (List Pt)}{S:Nat->Prop}{w:World}{r:Ending}{w':World}(h:Zh F fs rows S w r w'):U7 F fs rows S w r w':=by
 obtain ⟨hb,⟨e,h1,_,h3⟩ | ⟨t,c,x,ad1,c1,ad2,c2,h1,h2,h3,h4,h5⟩⟩:=h
 ·exact ⟨hb,e,none,.agg Rv,none,0,none,0,h1,h3,ky0 hF _ _⟩
 exact ⟨hb,0,some (t,c),x,ad1,c1,ad2,c2,h1,h2,h3,h4,h5⟩
theorem mq0:∀l:List Ir,((l.map λx=>x.2.1.map λ_=>SY).map Q6).sum<=((l.map (·.2.1)).map Q6).sum
 | []=>P6 _
 | x::l=>by
  simp only [Re,SO];exact AE (yt1 x.2.1) (mq0 l)
theorem XL (fs:List Pu):((fs.map Sh).map λf=>f.1.length).sum=(fs.map λf=>f.1.length).sum:=by
 rw [TL]
 congr 1
 refine Zg λf _=> ?_;simp [Sh]
