import Derived.Test.YtpdmkhnonbbhnaaGreatMxx
import Derived.Test.YtpdmkhnonbbhnaaGreatMyx
namespace Go.Proofs.YtpdmkhnonbbhnaaGreat
open Go.RowKit Go.Maps
set_option maxHeartbeats 8000000
set_option maxRecDepth 10000
section
variable {L:List Value}
def PW (L:List Value):Prop:=∀v∈L,∀ad n cap,v= .slice ad n cap->n<=1000000
theorem PW.sml (h:PW L):TA L:=λ_ hi ad n cap e=>h _ (Px hi) ad n cap e
theorem PW.cons {ad:Option Addr}{n cap:Nat}(hn:n<=1000000)(h:PW L):PW (.slice ad n cap::L):=λv hv ad' n' cap' e=>by
 rcases Qa.1 hv with hv | hv
 ·rw [hv] at e;have:=(RM e).2.1;omega
 exact h v hv ad' n' cap' e
theorem PW.append {L':List Value}(h:PW L)(h':PW L'):PW (L++L'):=λv hv=>by
 rcases PE.1 hv with hv | hv
 ·exact h v hv
 exact h' v hv
theorem PW.nil:PW []:=λv hv=>by simp at hv
theorem PW.flat {Ls:List (List Value)}(h:∀L∈Ls,PW L):PW Ls.flatten:=λv hv=>by
 obtain ⟨L,hL,hv⟩:=RF.1 hv;exact h L hL v hv
theorem Yl {α:Type}{N:α->Nat}:∀(Ls:List (List Value)) (ts:List α),Ls.length=ts.length->(∀i (h:i<Ls.length) (h':i<ts.length),Ls[i].length=N ts[i])->Ls.flatten.length=(ts.map N).sum
 | [],[],_,_=>rfl
 | a::Ls,b::ts,hl,h=>by
  have h0:=h 0 (by simp) (by simp);have h1:=Yl Ls ts (by simpa using hl) λi hi aB=>h (i+1) (by simpa using hi) (by simpa using aB);rw [U3,QP,Re,SO,h1];simp only [Yx] at h0;omega
 | [],_::_,h,_=>by simp at h
 | _::_,[],h,_=>by simp at h
theorem G0 {a b a' b':Int}{p c e p' c' e':Value}(h:Value.agg #[.int .i64 a,.int .i64 b,p,c,e]= .agg #[.int .i64 a',.int .i64 b',p',c',e']):p=p'/\c=c'/\e=e':=by
 injection h with h;have h2:=congrArg (λx:Array Value=>x[2]?) h;have h3:=congrArg (λx:Array Value=>x[3]?) h;have h4:=congrArg (λx:Array Value=>x[4]?) h;exact ⟨by simpa using h2,by simpa using h3,by simpa using h4⟩
theorem KA {w:World}{S S':Nat->Prop}:∀(f:Nat) (x:Value) (t:Tr f) (R:Te),QW w S f x R->PL w S' f x t->Sm f t->Un 5001 f t->(R.1.length=S4 f t/\R.2.1.length=S4 f t/\R.2.2.length=S4 f t)/\PW R.1/\PW R.2.1/\PW R.2.2
 | 0,x,t,R,⟨_,h⟩,_,_,_=>by
  subst h;exact ⟨⟨rfl,rfl,rfl⟩,PW.cons (by omega) PW.nil,PW.cons (by omega) PW.nil,PW.cons (by omega) PW.nil⟩
 | f+1,x,t,R,⟨a,b,pa,pl,pc,ca,cc,ea,ec,G,G',h1,h2,h3,h4⟩,⟨pa',pc',ca',cc',ea',ec',k1,_,k3,k4⟩,hsm,hpt=>by
  rw [h1] at k1;obtain ⟨e1,e2,e3⟩:=G0 k1;obtain ⟨rfl,bo,rfl⟩:=RM e1;obtain ⟨rfl,hG,rfl⟩:=RM e2;obtain ⟨rfl,vC,rfl⟩:=RM e3;have c1:∀i (h:i<G.length) (h':i<t.2.1.length),(G[i].1.length=S4 f t.2.1[i].2/\G[i].2.1.length=S4 f t.2.1[i].2/\G[i].2.2.length=S4 f t.2.1[i].2)/\PW G[i].1/\PW G[i].2.1/\PW G[i].2.2:=λi hi aB=>by
   obtain ⟨g,v0,v1,v2,v3,v4,q1,_,d0,d1,d2,d3,d4,q⟩:=h3 i hi;rcases k3 with ⟨k3,_⟩ | ⟨g',o',cap',r1,_,_,r⟩
   ·rw [k3] at aB;simp at aB
   obtain ⟨r1,_,_⟩:=RM r1;rw [q1] at r1;injection r1 with r1;injection r1 with r1 r2;subst r1 r2;obtain ⟨_,_,_,_,u0,u1,u2,u3,u4,m0,m1,m2,m3,m4,m⟩:=r i aB;rw [Rp] at m0 m1 m2 m3 m4;rw [d0] at m0;rw [d1] at m1;rw [d2] at m2;rw [d3] at m3;rw [d4] at m4;obtain rfl:=Qs m0;obtain rfl:=Qs m1;obtain rfl:=Qs m2;obtain rfl:=Qs m3;obtain rfl:=Qs m4;exact KA f _ _ _ q m (hsm.2.2.1 _ (Px aB)) (hpt.2.1 _ (Px aB))
  have c2:∀i (h:i<G'.length) (h':i<t.2.2.length),(G'[i].1.length=S4 f t.2.2[i]/\G'[i].2.1.length=S4 f t.2.2[i]/\G'[i].2.2.length=S4 f t.2.2[i])/\PW G'[i].1/\PW G'[i].2.1/\PW G'[i].2.2:=λi hi aB=>by
   obtain ⟨g,v0,v1,v2,v3,v4,q1,_,d0,d1,d2,d3,d4,q⟩:=h4 i hi;rcases k4 with ⟨k3,_⟩ | ⟨g',o',cap',r1,_,_,r⟩
   ·rw [k3] at aB;simp at aB
   obtain ⟨r1,_,_⟩:=RM r1;rw [q1] at r1;injection r1 with r1;injection r1 with r1 r2;subst r1 r2;obtain ⟨_,u0,u1,u2,u3,u4,m0,m1,m2,m3,m4,m⟩:=r i aB;rw [Rp] at m0 m1 m2 m3 m4;rw [d0] at m0;rw [d1] at m1;rw [d2] at m2;rw [d3] at m3;rw [d4] at m4;obtain rfl:=Qs m0;obtain rfl:=Qs m1;obtain rfl:=Qs m2;obtain rfl:=Qs m3;obtain rfl:=Qs m4;exact KA f _ _ _ q m (hsm.2.2.2 _ (Px aB)) (hpt.2.2 _ (Px aB))
  subst h2;have l1:(Qr G).length=(t.2.1.map λc=>S4 f c.2).sum:=Yl _ _ (by simpa using hG) λi hi aB=>by rw [R7];exact (c1 i (by simpa using hi) aB).1.1
  have l2:(QD G).length=(t.2.1.map λc=>S4 f c.2).sum:=Yl _ _ (by simpa using hG) λi hi aB=>by rw [R7];exact (c1 i (by simpa using hi) aB).1.2.1
  have l3:(QC G).length=(t.2.1.map λc=>S4 f c.2).sum:=Yl _ _ (by simpa using hG) λi hi aB=>by rw [R7];exact (c1 i (by simpa using hi) aB).1.2.2
  have m1:(Qr G').length=(t.2.2.map (S4 f)).sum:=Yl _ _ (by simpa using vC) λi hi aB=>by rw [R7];exact (c2 i (by simpa using hi) aB).1.1
  have m2:(QD G').length=(t.2.2.map (S4 f)).sum:=Yl _ _ (by simpa using vC) λi hi aB=>by rw [R7];exact (c2 i (by simpa using hi) aB).1.2.1
  have m3:(QC G').length=(t.2.2.map (S4 f)).sum:=Yl _ _ (by simpa using vC) λi hi aB=>by rw [R7];exact (c2 i (by simpa using hi) aB).1.2.2
  have s1:PW (Qr G):=PW.flat λL hL=>by
   obtain ⟨i,hi,rfl⟩:=RO hL;rw [R7];exact (c1 i (by simpa using hi) (by rw [<-hG];simpa using hi)).2.1
  have s2:PW (QD G):=PW.flat λL hL=>by
   obtain ⟨i,hi,rfl⟩:=RO hL;rw [R7];exact (c1 i (by simpa using hi) (by rw [<-hG];simpa using hi)).2.2.1
  have s3:PW (QC G):=PW.flat λL hL=>by
   obtain ⟨i,hi,rfl⟩:=RO hL;rw [R7];exact (c1 i (by simpa using hi) (by rw [<-hG];simpa using hi)).2.2.2
  have z1:PW (Qr G'):=PW.flat λL hL=>by
   obtain ⟨i,hi,rfl⟩:=RO hL;rw [R7];exact (c2 i (by simpa using hi) (by rw [<-vC];simpa using hi)).2.1
  have z2:PW (QD G'):=PW.flat λL hL=>by
   obtain ⟨i,hi,rfl⟩:=RO hL;rw [R7];exact (c2 i (by simpa using hi) (by rw [<-vC];simpa using hi)).2.2.1
  have z3:PW (QC G'):=PW.flat λL hL=>by
   obtain ⟨i,hi,rfl⟩:=RO hL;rw [R7];exact (c2 i (by simpa using hi) (by rw [<-vC];simpa using hi)).2.2.2
  have p1:=hpt.1;have p2:=hsm.1;have p3:=hsm.2.1;refine ⟨⟨?_,?_,?_⟩,PW.cons (by omega) (s1.append z1),PW.cons (by omega) (s2.append z2),PW.cons (by omega) (s3.append z3)⟩
  ·show (_::_).length=1+_+_;rw [Rj,QP,l1,m1];omega
  ·show (_::_).length=1+_+_;rw [Rj,QP,l2,m2];omega
  show (_::_).length=1+_+_;rw [Rj,QP,l3,m3];omega
theorem kx0 {w:World}{S S':Nat->Prop}:∀(d:Nat) (v:Value) (ps:List Pt) (L:List Value),RD w S d v L->Pl w S' v ps->Q6 ps<=50000->L.length=1+Q6 ps/\PW L
 | 0,v,ps,L,⟨ad,cap,h1,h2⟩,hp,_=>by
  subst h2;obtain ⟨ad',cap',e⟩:=Pd.len hp;rw [h1] at e;have h0:ps=[]:=Up.1 (RM e).2.1.symm;subst h0;rw [h1];exact ⟨rfl,PW.cons (by omega) PW.nil⟩
 | d+1,v,ps,L,⟨ad,n,cap,Ls,h1,_,h3,h4,h5⟩,hp,hs=>by
  subst h1 h3;obtain ⟨ad',cap',e⟩:=Pd.len hp;have hn:n=ps.length:=(RM e).2.1;have c1:∀i (h:i<Ls.length) (h':i<ps.length),Ls[i].length=ps[i].sz/\PW Ls[i]:=λi hi aB=>by
   obtain ⟨g,u,q1,_,d3,q⟩:=h5 i hi;have hz:=WQ (Px aB);have bJ:=ps[i].sz_eq;rcases id hp with ⟨k3,_⟩ | ⟨g',o',cap',r1,_,_,r⟩
   ·rw [k3] at aB;simp at aB
   obtain ⟨r1,_,_⟩:=RM r1;rw [q1] at r1;injection r1 with r1;injection r1 with r1 r2;subst r1 r2;obtain ⟨_,_,_,_,_,_,ad2,cap2,m,mp⟩:=(r i aB).open;rw [Rp] at m;rw [d3] at m;obtain rfl:=Qs m;have:=kx0 d _ _ _ q mp (by omega);exact ⟨by omega,this.2⟩
  have hl:Ls.flatten.length=(ps.map Pt.sz).sum:=Yl _ _ (by omega) λi hi aB=>(c1 i hi aB).1;have hsz:Q6 ps=(ps.map Pt.sz).sum:=rfl;refine ⟨by rw [Rj];omega,PW.cons ?_ (PW.flat λL hL=> ?_)⟩
  ·have:=Xs ps;omega
  obtain ⟨i,hi,rfl⟩:=RO hL;exact (c1 i hi (by omega)).2
end
section
variable {F c1 c2:Nat}{w:World}{S:Nat->Prop}{x:Value}{ad1 ad2:Option Addr}
structure Fine (F:Nat)(t:Tr F)(c:Cv F):Prop where
 sm:Sm F t
 short:Rn F t
 pth:Un 5001 F t
 nodes:S4 F t<=5000
 sz:Q6 (c.2.2.map λu=>(⟨F+1,u⟩:Pt))<=50000
 idle:c.2.1.length<=200
 miss:c.2.2.length<=16
def P8 {F:Nat}(o:Option (Tr F×Cv F)):Tr F×Cv F:=o.getD (Qz F,(false,[],[]))
theorem yn1 {fs:List Pu}{rows:List (List Pt)}{e:Int}{p:Tr F×Cv F}(h:RR F fs rows e (some p)):e=0:=by
 rcases h with ⟨_,_,h⟩ | ⟨_,⟨_,_,h⟩ | ⟨k,_,⟨_,_,h⟩ | ⟨_,⟨_,_,h⟩ | ⟨_,⟨_,_,h⟩ | ⟨_,h,_⟩⟩⟩⟩⟩
 ·cases h
 ·cases h
 ·cases h
 ·cases h
 ·cases h
 exact h
theorem Dm (hF:F<=5001){fs:List Pu}{rows:List (List Pt)}{e:Int}{o:Option (Tr F×Cv F)}(h:RR F fs rows e o):Fine F (P8 o).1 (P8 o).2:=by
 cases o with
 | none=>exact ⟨Sm.zero _,Rn.zero _,Un.zero _ _,by show S4 F (Qz F)<=_;rw [ks0];omega,by simp [P8,Q6],by simp [P8],by simp [P8]⟩
 | some p=>
  obtain rfl:=yn1 h;obtain ⟨t,c⟩:=p;obtain ⟨h1,h2,h3,h4⟩:=az1 (by omega) h;obtain ⟨h5,h6,h7⟩:=ym1 hF h;exact ⟨h1,h2,h7,h5,h6,h3,h4⟩
def An (F:Nat)(w:World)(S:Nat->Prop)(p:Tr F×Cv F)(x:Value)(ad1:Option Addr)(c1:Nat)(ad2:Option Addr)(c2:Nat):Prop:=PL w S F x p.1/\Pv w S (.slice ad1 p.2.2.1.length c1) p.2.2.1/\Pl w S (.slice ad2 p.2.2.2.length c2) (p.2.2.2.map λu=>(⟨F+1,u⟩:Pt))
theorem An.on {w':World}{S':Nat->Prop}{p:Tr F×Cv F}(h:An F w S p x ad1 c1 ad2 c2)(hk:OZ S w w')(hS:∀y,S y->S' y):An F w' S' p x ad1 c1 ad2 c2:=⟨PL.below hk hS F _ _ h.1,(h.2.1.on hk).up hS,(h.2.2.on hk).up hS⟩
def Se {F:Nat}(p:Tr F×Cv F)(ad1:Option Addr)(c1:Nat)(ad2:Option Addr)(c2:Nat):Value:= .agg #[.bool p.2.1,.slice ad1 p.2.2.1.length c1,.slice ad2 p.2.2.2.length c2]
theorem ky0 (hF:0<F)(w:World)(S:Nat->Prop):An F w S (P8 none) (.agg Rv) none 0 none 0:=by
 cases F with
 | zero=>omega
 | succ f=>exact ⟨⟨none,0,none,0,none,0,rfl,.inl ⟨rfl,none,0,rfl⟩,.inl ⟨rfl,none,0,rfl⟩,.inl ⟨rfl,none,0,rfl⟩⟩,.inl ⟨rfl,none,0,rfl⟩,.inl ⟨rfl,none,0,rfl⟩⟩
theorem Vy (hF:0<F)(w:World)(lo hi:Nat):UF w lo hi F (.agg Rv) none 0 0 none 0 0:=by
 cases F with
 | zero=>omega
 | succ f=>
  obtain ⟨bs,h1,h2,h3⟩:=OE w lo hi f 0 0;exact ⟨bs,[],[],0,h1,.inl ⟨rfl,rfl,rfl,rfl⟩,⟨none,0,rfl,.inl ⟨rfl,rfl,rfl,rfl⟩⟩,by simpa using h2,by simpa using h3⟩
def OF (F:Nat)(fs:List Pu)(rows:List (List Pt))(w:World)(r:Ending)(w':World):Prop:=Below w.heap.size w w'/\∃(e:Int) (o:Option (Tr F×Cv F)) (x:Value) (ad1:Option Addr) (c1:Nat) (ad2:Option Addr) (c2:Nat),RR F fs rows e o/\r= .returned (.tuple #[x,Se (P8 o) ad1 c1 ad2 c2,.int .i64 e])/\An F w' (λy=>w.heap.size<=y/\y<w'.heap.size) (P8 o) x ad1 c1 ad2 c2/\UF w' w.heap.size w'.heap.size F x ad1 (P8 o).2.2.1.length c1 ad2 (P8 o).2.2.2.length c2
def U7 (F:Nat)(fs:List Pu)(rows:List (List Pt))(S:Nat->Prop)(w:World)(r:Ending)(w':World):Prop:=Below w.heap.size w w'/\∃(e:Int) (o:Option (Tr F×Cv F)) (x:Value) (ad1:Option Addr) (c1:Nat) (ad2:Option Addr) (c2:Nat),RR F fs rows e o/\r= .returned (.tuple #[x,Se (P8 o) ad1 c1 ad2 c2,.int .i64 e])/\An F w' (λy=>S y\/(w.heap.size<=y/\y<w'.heap.size)) (P8 o) x ad1 c1 ad2 c2
theorem VG (hF:0<F){fs:List Pu}{rows:List (List Pt)}{w:World}{r:Ending}{w':World}(h:ta0 F fs rows w r w'):OF F fs rows w r w':=by
 obtain ⟨hb,⟨e,h1,_,h3⟩ | ⟨t,c,x,ad1,c1,ad2,c2,h1,h2,h3,h4,h5,h6⟩⟩:=h
 ·exact ⟨hb,e,none,.agg Rv,none,0,none,0,h1,h3,ky0 hF _ _,Vy hF _ _ _⟩
 exact ⟨hb,0,some (t,c),x,ad1,c1,ad2,c2,h1,h2,⟨h3,h4,h5⟩,h6⟩
structure Ows (lo hi:Nat)(w w':World):Prop where
 os:w'.os=w.os
 tape:w'.tape=w.tape
 output:w'.output=w.output
 size:w.heap.size<=w'.heap.size
 block:∀y,y<w.heap.size->¬(lo<=y/\y<hi)->w'.heap[y]? =w.heap[y]?
theorem K6 {lo hi:Nat}{p:Tr F×Cv F}(hA:An F w S p x ad1 c1 ad2 c2)(hO:UF w lo hi F x ad1 p.2.2.1.length c1 ad2 p.2.2.2.length c2)(hf:Fine F p.1 p.2)(Cj:hi<=w.heap.size):
  Calls Tryz.prog 15 #[x,Se p ad1 c1 ad2 c2] w λr w'=>r= .returned (.bool true)/\Ows lo hi w w':=by
 obtain ⟨bt,bi,bm,d,o1,o2,o3,o4,o5⟩:=hO;obtain ⟨R,g1,a,b,c,l1,l2,l3,l4⟩:=N0 (S:=λy=>y<w.heap.size) F x bt o1 λy hy=>by have:=o5 y (by simp [hy]);omega
 obtain ⟨L,cL,g2,l5,l6⟩:=Lg (S:=λy=>y<w.heap.size) d _ bm o3 λy hy=>by have:=o5 y (by simp [hy]);omega
 obtain ⟨⟨n1,n2,n3⟩,s1,s2,s3⟩:=KA F x p.1 R g1 hA.1 hf.sm hf.pth;obtain ⟨n4,s4⟩:=kx0 d _ _ L g2 hA.2.2 hf.sz;have f1:=hf.nodes;have f2:=hf.sz;have f3:=hf.idle;have mY:(R5 (a++[bi]) cL b c).Perm (bt++(bi++bm)):=by
  refine JC.2 λq=> ?_;have m1:=l4.count_eq q;have m2:=l6.count_eq q;unfold R5;simp only [Tu,U3,List.flatten_nil,SH,Ld] at m1 m2⊢;omega
 have gU:∀y∈R5 (a++[bi]) cL b c,lo<=y/\y<hi:=λy hy=>o5 y (mY.mem_iff.1 hy);have vD:Fo (R.1++[.slice ad1 p.2.2.1.length c1]) L R.2.1 R.2.2 (a++[bi]) cL b c w:=⟨l1.append (QH.cons o2 (QH.nil _ _ _)),l5,l2,l3,mY.nodup_iff.2 o4⟩;have hsm:TA (R.1++[.slice ad1 p.2.2.1.length c1])/\TA L/\TA R.2.1/\TA R.2.2:=⟨(s1.append (PW.cons (by omega) PW.nil)).sml,s4.sml,s2.sml,s3.sml⟩;have aA:(R.1++[Value.slice ad1 p.2.2.1.length c1]).length<=1000000/\L.length<=1000000/\R.2.1.length<=1000000/\R.2.2.length<=1000000:=⟨by rw [QP];simp;omega,by omega,by omega,by omega⟩;obtain ⟨ta,tb,pa,pl,pc,ca,cl,cc,ea,el,ec,rfl⟩:=hA.1.parts;obtain ⟨W,hW⟩:∃W,W=(w.alloc (.cells #[.int .i64 ta,.int .i64 tb,.slice pa pl pc,.slice ca cl cc,.slice ea el ec] 30)).alloc (.cells #[.bool p.2.1,.slice ad1 p.2.2.1.length c1,.slice ad2 p.2.2.2.length c2] 33):=⟨_,rfl⟩;have an:Below w.heap.size w W:=by rw [hW];exact ((Pb _ _).alloc (P6 _) _).alloc (by simp) _
 have aO:=an.size;have CG:=Wj (bw:=p.2.1) (ia:=ad1) (il:=p.2.2.1.length) (ic:=c1) (QW.on (λy hy=>an.block y hy) _ _ _ g1) (RD.on (λy hy=>an.block y hy) _ _ _ g2) (λy hy=>PQ hy aO) ⟨by omega,by omega,by omega,by omega⟩;have cW:W.heap[w.heap.size]? =some (.cells #[.int .i64 ta,.int .i64 tb,.slice pa pl pc,.slice ca cl cc,.slice ea el ec] 30 (0,0)):=by
  rw [hW,Qq _ _ _ (by simp)];exact PF w _
 have pu:W.heap[w.heap.size+1]? =some (.cells #[.bool p.2.1,.slice ad1 p.2.2.1.length c1,.slice ad2 p.2.2.2.length c2] 33 (0,0)):=by
  rw [hW];have:=PF (w.alloc (.cells #[.int .i64 ta,.int .i64 tb,.slice pa pl pc,.slice ca cl cc,.slice ea el ec] 30)) (.cells #[.bool p.2.1,.slice ad1 p.2.2.1.length c1,.slice ad2 p.2.2.2.length c2] 33);simpa using this
 have t0:=P0 (i:=0) cW rfl;have t1:=P0 (i:=1) cW rfl;have t2:=P0 (i:=2) cW rfl;have t3:=P0 (i:=3) cW rfl;have t4:=P0 (i:=4) cW rfl;have u0:=P0 (i:=0) pu rfl;have u1:=P0 (i:=1) pu rfl;have u2:=P0 (i:=2) pu rfl;have dB:Hid (Below w.heap.size w W):=an;have Ck:Hid (∀w1,Below w.heap.size w w1->Fo (R.1++[.slice ad1 p.2.2.1.length c1]) L R.2.1 R.2.2 (a++[bi]) cL b c w1):=λw1 hb=>by
  have hk:∀y∈R5 (a++[bi]) cL b c,w1.heap[y]? =w.heap[y]? :=λy hy=>hb.block y (by have:=gU y hy;omega);unfold R5 at hk;simp only [PE] at hk;exact ⟨vD.a.on λy hy=>hk y (.inl hy),vD.b.on λy hy=>hk y (.inr (.inl hy)),vD.c.on λy hy=>hk y (.inr (.inr (.inl hy))),vD.e.on λy hy=>hk y (.inr (.inr (.inr hy))),vD.nd⟩
 have mZ:Hid (∀y∈R5 (a++[bi]) cL b c,lo<=y/\y<hi):=gU;have fT:Hid (TA (R.1++[.slice ad1 p.2.2.1.length c1])/\TA L/\TA R.2.1/\TA R.2.2):=hsm;have cX:Hid ((R.1++[Value.slice ad1 p.2.2.1.length c1]).length<=1000000/\L.length<=1000000/\R.2.1.length<=1000000/\R.2.2.length<=1000000):=aA;have Bf:Hid (hi<=w.heap.size):=Cj;clear hA hf o1 o2 o3 o4 o5 g1 g2 l1 l2 l3 l4 l5 l6 n1 n2 n3 n4 s1 s2 s3 s4 f1 f2 f3 mY gU vD hsm aA Cj an cW pu;unfold Se;generalize p.2.2.1.length=il at *
 generalize p.2.2.2.length=ml at *
 generalize G8:R.1++[Value.slice ad1 il c1]=LA at *
 obtain ⟨R1,R2,R3⟩:=R;simp only at CG Ck fT cX G8;go_enter Tryz.func15,Tryz.ntmps15
 go_upto_region 1 with fail
 rw [<-hW];clear hW
 go_wp2_with fail
 go_at_call 34
 (with_reducible refine Pe CG ?_)
 rintro e1 w1 ⟨hb1,rfl,va,vb,vc,ve,hp1⟩;replace hb1:Below w.heap.size w w1:=dB.out.trans (hb1.mono aO);have Cl:Hid (Pz (W.heap.size+3) (W.heap.size+2) [va,vb,vc,ve] [LA,L,R2,R3] w1):=by
  show Pz _ _ _ _ _;rw [<-G8];exact hp1
 clear hp1
 go_wp2_with fail
 go_at_call 35
 (with_reducible refine Pe (cn1 Cl.out (Ck.out w1 hb1) (λy hy=>by have:=mZ.out y hy;have:=Bf.out;omega) fT.out cX.out) ?_)
 rintro e2 w2 ⟨rfl,hs2⟩;have bQ:Hid (St LA L R2 R3 (a++[bi]) cL b c w1 4 w2):=hs2;clear hs2;have vB:Hid (Pz (W.heap.size+3) (W.heap.size+2) [va,vb,vc,ve] [LA,L,R2,R3] w2):=Cl.out.kx (λy hy=>by have:=mZ.out y hy;have:=Bf.out;omega) bQ.out.kx
 go_wp2_with fail
 go_at_call 36
 (with_reducible refine Pe (LY vB.out (bQ.out.a (by omega)) (bQ.out.b (by omega)) (bQ.out.c (by omega)) (bQ.out.e (by omega)) cX.out) ?_)
 rintro e3 w3 ⟨rfl,hw3⟩;subst hw3
 go_wp2_with fail
 go_at_call 35
 (with_reducible refine Pe (cq1 vB.out bQ.out.fo (bQ.out.a (by omega)) (bQ.out.b (by omega)) (bQ.out.c (by omega)) (bQ.out.e (by omega)) (λy hy=>by have:=mZ.out y hy;have:=Bf.out;omega) fT.out cX.out) ?_)
 rintro e4 w4 ⟨rfl,hs4⟩;have n7:Hid (St LA L R2 R3 (a++[bi]) cL b c w3 4 w4):=hs4;clear hs4;have vE:Hid (Pz (W.heap.size+3) (W.heap.size+2) [va,vb,vc,ve] [LA,L,R2,R3] w4):=vB.out.kx (λy hy=>by have:=mZ.out y hy;have:=Bf.out;omega) n7.out.kx
 go_wp2_with fail
 go_at_call 36
 (with_reducible refine Pe (LY vE.out (n7.out.a (by omega)) (n7.out.b (by omega)) (n7.out.c (by omega)) (n7.out.e (by omega)) cX.out) ?_)
 rintro e5 w5 ⟨rfl,hw5⟩;subst hw5;have dj:Hid (Ows lo hi w w5):=by
  have k2:=bQ.out.kx;have k4:=n7.out.kx;have m2:=k2.size;have m4:=k4.size;have mb:=hb1.size;refine ⟨k4.os.trans (k2.os.trans hb1.os),k4.tape.trans (k2.tape.trans hb1.tape),k4.output.trans (k2.output.trans hb1.output),by omega,λy hy am=> ?_⟩;have G9:y∉R5 (a++[bi]) cL b c:=λh=>am (mZ.out y h);exact (k4.block y (by omega) G9).trans ((k2.block y (by omega) G9).trans (hb1.block y hy))
 clear bQ n7 Cl vB vE Ck
 go_wp2_with fail
 go_ret;exact ⟨rfl,dj.out⟩
end
