import Derived.Test.YtpdmkhnonbbhnaaGreatMux
import Derived.Test.YtpdmkhnonbbhnaaGreatMvx
namespace Go.Proofs.YtpdmkhnonbbhnaaGreat
open Go.RowKit Go.Maps
set_option maxHeartbeats 8000000
set_option maxRecDepth 10000
variable {B P:Nat}{w:World}
def L8:Nat->Nat
 | 0=>26
 | 1=>31
 | 2=>27
 | _=>28
structure Kz (B P:Nat)(w w':World):Prop where
 os:w'.os=w.os
 tape:w'.tape=w.tape
 output:w'.output=w.output
 size:w.heap.size<=w'.heap.size
 block:∀y,y<B->y≠P->w'.heap[y]? =w.heap[y]?
theorem Kz.trans {a b c:World}(h:Kz B P a b)(k:Kz B P b c):Kz B P a c:=⟨k.os.trans h.os,k.tape.trans h.tape,k.output.trans h.output,PZ h.size k.size,λy h1 h2=>(k.block y h1 h2).trans (h.block y h1 h2)⟩
structure Pz (B P:Nat)(vs:List Value)(ls:List (List Value))(w:World):Prop where
 low:P<B
 n:vs.length=4
 n':ls.length=4
 blk:w.heap[P]? =some (.cells vs.toArray 124 (0,0))
 own:∀i (h:i<vs.length) (h':i<ls.length),w.ownsRow B (L8 i) 1 vs[i] ls[i].length ls[i]
 ap:∀i j (hi:i<vs.length) (hj:j<vs.length),i≠j->∀y,vs[i].ownBlock=some y->vs[j].ownBlock≠some y
theorem MC {w':World}{e k:Nat}{v:Value}{n:Nat}{xs:List Value}(h:w.ownsRow B e k v n xs)(hk:∀y,v.ownBlock=some y->w'.heap[y]? =w.heap[y]?):w'.ownsRow B e k v n xs:=by
 obtain ⟨h1,h2⟩:=h;refine ⟨h1,?_⟩;rcases h2 with h2 | ⟨g,cap,cur,rfl,h3,h4,h5⟩
 ·exact .inl h2
 exact .inr ⟨g,cap,cur,rfl,h3,(hk g rfl).trans h4,h5⟩
theorem Pz.put {vs:List Value}{ls:List (List Value)}(h:Pz B P vs ls w)(j:Nat)(hj:j<vs.length)(aJ:j<ls.length){o:Obj}{g cap:Nat}{w5:World}{x:Value}(hB:B<=w.heap.size)(ho:w5.ownsRow B (L8 j) 1 (.slice (some ⟨g,0,none⟩) (ls[j].length+1) cap) (ls[j].length+1) (ls[j]++[x]))(hg:(w.alloc o).grownBy w5 vs[j].ownBlock)(bL:vs[j].ownBlock=some g\/g=w.heap.size+1):
  w5.heap[P]? =some (.cells vs.toArray 124 (0,0))/\Pz B P (vs.set j (.slice (some ⟨g,0,none⟩) (ls[j].length+1) cap)) (ls.set j (ls[j]++[x])) (w5.setCell ⟨P,j,none⟩ (.slice (some ⟨g,0,none⟩) (ls[j].length+1) cap))/\Kz B P w (w5.setCell ⟨P,j,none⟩ (.slice (some ⟨g,0,none⟩) (ls[j].length+1) cap)):=by
 have hP:=PV h.blk;have bM:=h.low;have aE:∀y,y<w.heap.size->vs[j].ownBlock≠some y->w5.heap[y]? =w.heap[y]? :=λy hy am=>by
  rw [hg.block y (by simp;omega) (λe=>am e.symm),Qq _ _ _ hy]
 have hlt:∀i (hi:i<vs.length) (aB:i<ls.length) y,vs[i].ownBlock=some y->B<=y/\y<w.heap.size:=λi hi aB y e=>(h.own i hi aB).lt y e;have Jm:w5.heap[P]? =some (.cells vs.toArray 124 (0,0)):=(aE P hP λe=>by have:=(hlt j hj aJ P e).1;omega).trans h.blk;have bj7:B<=g:=by
  rcases bL with e | e
  ·exact (hlt j hj aJ g e).1
  omega
 have iI:=hg.size;rw [Sb] at iI;refine ⟨Jm,⟨bM,by rw [XO];exact h.n,by rw [XO];exact h.n',?_,λi hi aB=> ?_,λi k hi hk am y hy=> ?_⟩,?_⟩
 ·have:=Q5 (i:=j) (v:= .slice (some ⟨g,0,none⟩) (ls[j].length+1) cap) Jm;rw [PN] at this;exact this
 ·rw [XO] at hi aB;by_cases e:j=i
  ·subst e;rw [YV,YV,QP];refine MC ho λy hy=> ?_;have:g=y:=by injection hy
   rw [PX _ _ _ _ (by show y≠P;omega)]
  rw [Ya e,Ya e];refine MC (h.own i hi aB) λy hy=> ?_;have hy2:=hlt i hi aB y hy;rw [PX _ _ _ _ (by show y≠P;omega)];exact aE y hy2.2 (h.ap i j hi hj (λq=>e q.symm) y hy)
 ·rw [XO] at hi hk;by_cases e:j=i
  ·subst e;rw [YV] at hy;have B8:g=y:=by injection hy
   rw [Ya am];intro hc;rcases bL with e' | e'
   ·exact h.ap j k hi hk am y (B8▸e') hc
   have:=(hlt k hk (by rw [h.n',<-h.n];exact hk) y hc).2;omega
  rw [Ya e] at hy;by_cases e2:j=k
  ·subst e2;rw [YV];intro hc;have B8:g=y:=by injection hc
   rcases bL with e' | e'
   ·exact h.ap i j hi hk am y hy (B8▸e')
   have:=(hlt i hi (by rw [h.n',<-h.n];exact hi) y hy).2;omega
  rw [Ya e2];exact h.ap i k hi hk am y hy
 refine ⟨hg.os,hg.tape,hg.output,by simp [World.setCell];omega,λy hy am=> ?_⟩;rw [PX _ _ _ _ am];exact aE y (by omega) λe=>by have:=(hlt j hj aJ y e).1;omega
def RD (w:World)(S:Nat->Prop):Nat->Value->List Value->Prop
 | 0,v,L=>∃ad cap,v= .slice ad 0 cap/\L=[v]
 | d+1,v,L=>∃(ad:Option Addr) (n cap:Nat) (Ls:List (List Value)),v= .slice ad n cap/\n<=cap/\L=v::Ls.flatten/\Ls.length=n/\∀i (h:i<Ls.length),∃g u,ad=some ⟨g,0,none⟩/\S g/\w.cell? ⟨g,i*4+3,none⟩=some u/\RD w S d u Ls[i]
theorem RD.on {w w':World}{S:Nat->Prop}(hk:∀y,S y->w'.heap[y]? =w.heap[y]?):∀(d:Nat) (v:Value) (L:List Value),RD w S d v L->RD w' S d v L
 | 0,_,_,h=>h
 | d+1,v,L,⟨ad,n,cap,Ls,h1,h2,h3,h4,h5⟩=>⟨ad,n,cap,Ls,h1,h2,h3,h4,λi hi=>by
  obtain ⟨g,u,q1,q2,q3,q4⟩:=h5 i hi;exact ⟨g,u,q1,q2,(Qm (hk g q2) _).trans q3,RD.on hk d u _ q4⟩⟩
theorem RD.slice {w:World}{S:Nat->Prop}:∀(d:Nat) (v:Value) (L:List Value),RD w S d v L->∃ad n cap,v= .slice ad n cap
 | 0,_,_,⟨ad,cap,h,_⟩=>⟨ad,0,cap,h⟩
 | _+1,_,_,⟨ad,n,cap,_,h,_⟩=>⟨ad,n,cap,h⟩
theorem Tryz.info31:(Tryz.prog.info? 31).map (λi=>(i.zero,i.size,i.bytes))=some (some (.slice none 0 0),1,24):=by kernel_rfl
def OY (d:Nat):Prop:=∀(v:Value) (L:List Value) (w:World) (S:Nat->Prop) (B P:Nat) (a b c e:Value) (la lb lc le:List Value),RD w S d v L->(∀y,S y->y<B/\y≠P)->Pz B P [a,b,c,e] [la,lb,lc,le] w->B<=w.heap.size->lb.length+L.length<=1000000->Calls Tryz.prog 62 #[.pointer (some ⟨P,0,none⟩),v] w λr w'=>r= .returned (.tuple #[])/\Kz B P w w'/\∃b',Pz B P [a,b',c,e] [la,lb++L,lc,le] w'
theorem ck1 (aC:List (List Value))(i:Nat)(h:i<aC.length):(aC.take (i+1)).flatten=(aC.take i).flatten++aC[i]:=by
 rw [Yj h,Tu];simp
theorem Mf {ad:Option Addr}{cap:Nat}{Ls:List (List Value)}{S:Nat->Prop}{a b c e:Value}{la lb lc le:List Value}(bN:∀i (h:i<Ls.length),∃g u,ad=some ⟨g,0,none⟩/\S g/\w.cell? ⟨g,i*4+3,none⟩=some u/\∃d,RD w S d u Ls[i]/\OY d)(hS:∀y,S y->y<B/\y≠P)(hp:Pz B P [a,b,c,e] [la,lb,lc,le] w)(hB:B<=w.heap.size)(hn:lb.length+(Ls.flatten.length+1)<=1000000)(fL:Ls.length<=1000000):
  Calls Tryz.prog 62 #[.pointer (some ⟨P,0,none⟩),.slice ad Ls.length cap] w λr w'=>r= .returned (.tuple #[])/\Kz B P w w'/\∃b',Pz B P [a,b',c,e] [la,lb++(.slice ad Ls.length cap::Ls.flatten),lc,le] w':=by
 obtain ⟨i0,d7,c8,bK,bJ⟩:=info_parts Tryz.info31;have HS:=P4 hS;have HP:=P4 hp;have hown:w.ownsRow B 31 1 b lb.length lb:=hp.own 1 (by simp) (by simp);have c1:w.cell? ⟨P,1,none⟩=some b:=P0 hp.blk rfl;have bq:∀u∈[Value.slice ad Ls.length cap],u.oneCell'=true:=λu hu=>by rw [Ra.1 hu];rfl
 have vp:=P4 bN;have HN:=P4 hn;have Dk:lb.length<=1000000:=by omega
 have uq:Hid (∀i,i<Ls.length->(Ls.take i).flatten.length+(Ls[i]?.getD []).length<=Ls.flatten.length):=λi hi=>by
  have e:Ls.flatten=(Ls.take i).flatten++(Ls.drop i).flatten:=by rw [<-Tu,Ug]
  have e2:(Ls.drop i).flatten.length=Ls[i].length+(Ls.drop (i+1)).flatten.length:=by rw [Ur hi,U3,QP]
  rw [e,QP,e2,PR hi];simp
 clear bN hS hp hn;go_enter Tryz.func62,Tryz.ntmps62
 go_upto_region 2 with (at_builtin;refine wpList_append_lies _ rfl _ _ 23 rfl B 31 i0 _ 1 24 Tryz.underlying23 d7 c8 bK bJ rfl (by decide) _ _ _ rfl (hown.alloc _) ⟨w.heap.size,0,none⟩ 1 1 [.slice ad Ls.length cap] rfl rfl (World.news_of_block (Qn w _)) bq (by omega) (by unfold maxLen;omega) (by omega) (by simp;omega) (w.heap.size+1) (by simp) ?_;intro g5 cap5 w5 b8 bC cr dr;obtain ⟨hblk5,cD,bT⟩:=HP.put 1 (by simp) (by simp) hB b8 bC cr;have y1:w5.cell? ⟨P,1,none⟩=some b:=P0 hblk5 rfl;have z1:=Pp (o:=1) hblk5)
 obtain ⟨W5,cQ⟩:∃W5,W5=w5.setCell ⟨P,1,none⟩ (.slice (some ⟨g5,0,none⟩) (lb.length+1) cap5):=⟨_,rfl⟩;have Jn:Hid (Pz B P [a,.slice (some ⟨g5,0,none⟩) (lb.length+1) cap5,c,e] [la,lb++[.slice ad Ls.length cap],lc,le] W5/\Kz B P w W5):=by
  rw [cQ];exact ⟨cD,bT⟩
 rw [<-cQ];clear cD bT cQ hown b8 bC cr dr hblk5 y1 z1 c1 bq
 go_loopw [4] (λiv wr=>∃(i:Nat) (b':Value),i<=Ls.length/\iv= .int .i64 i/\Hid (Kz B P w wr)/\Hid (Pz B P [a,b',c,e] [la,lb++(.slice ad Ls.length cap::(Ls.take i).flatten),lc,le] wr)) (λiv _=>Ls.length-(intOf iv).toNat)
 case atStart=>exact ⟨0,_,by omega,by go_num,Jn.2,Jn.1⟩
 obtain ⟨i,b',hi,rfl,HK,HZ⟩:=hrel;by_cases ag:i<Ls.length
 ·obtain ⟨g,u,rfl,hg,q,d,iN,fF⟩:=vp.out i ag;have fh:∀y,S y->wr.heap[y]? =w.heap[y]? :=λy hy=>HK.block y (HS.out y hy).1 (HS.out y hy).2;replace q:=(Qm (fh g hg) (i*4+3)).trans q;have aY:=uq.out i ag;rw [PR ag,Ma] at aY;have CR:=fF u Ls[i] wr S B P a b' c e la _ lc le (RD.on fh d u _ iN) HS.out HZ.out (PZ hB HK.out.size) (by have:=HN.out;rw [QP,Rj];omega);obtain ⟨ua,un,uc,rfl⟩:=RD.slice _ _ _ iN;have i1:(0:Int)<=(i:Int):=by omega
  have i2:(i:Int)<(Ls.length:Int):=by omega
  have pf:=P4 (ck1 Ls i ag);clear iN fF fh aY
  go_wp2_with (first | (go_at_call 62;(with_reducible refine Pe CR ?_);rintro e' w7 ⟨rfl,hk7,b7,hz7⟩))
  refine ⟨⟨i+1,b7,ag,by go_num,HK.trans hk7,?_⟩,by simp [intOf];omega⟩;show Pz _ _ _ _ _;rw [pf.out];have e1:lb++(Value.slice (some ⟨g,0,none⟩) Ls.length cap::((Ls.take i).flatten++Ls[i]))=(lb++(Value.slice (some ⟨g,0,none⟩) Ls.length cap::(Ls.take i).flatten))++Ls[i]:=by simp
  rw [e1];exact hz7
 obtain rfl:i=Ls.length:=by omega
 rw [QM] at HZ;have dj:Hid (Kz B P w wr/\∃b',Pz B P [a,b',c,e] [la,lb++(.slice ad Ls.length cap::Ls.flatten),lc,le] wr):=⟨HK.out,b',HZ.out⟩;clear HK HZ;go_wp2;refine Yq (v:= .tuple #[]) (by simp [results,Tryz.results62,go_sem]) rfl ?_;exact ⟨rfl,dj.out⟩
theorem xz1:∀d,OY d
 | 0=>λv L w S B P a b c e la lb lc le ⟨ad,cap,h1,h2⟩ hS hp hB hn=>by
  subst h1 h2;exact Mf (Ls:=[]) (λi h=>by simp at h) hS hp hB (by simpa using hn) (by simp)
 | d+1=>λv L w S B P a b c e la lb lc le ⟨ad,n,cap,Ls,h1,h2,h3,h4,h5⟩ hS hp hB hn=>by
  subst h1 h3 h4;have hl:Ls.length<=1000000:=by
   have am:∀x∈Ls,1<=x.length:=λx hx=>by
    obtain ⟨i,hi,rfl⟩:=RO hx;obtain ⟨g,u,_,_,_,q⟩:=h5 i hi;cases d with
    | zero=>obtain ⟨_,_,_,e⟩:=q;rw [e];simp
    | succ d=>obtain ⟨_,_,_,_,_,_,e,_⟩:=q;rw [e];simp
   have:∀(K:List (List Value)),(∀x∈K,1<=x.length)->K.length<=K.flatten.length:=λK=>by
    induction K with
    | nil=>simp
    | cons x r ih=>
     intro h;have:=ih λy hy=>h y (by simp [hy]);have:=h x (by simp);rw [U3,QP,Rj];omega
   have:=this Ls am;rw [Rj] at hn;omega
  exact Mf (λi hi=>by
   obtain ⟨g,u,q1,q2,q3,q4⟩:=h5 i hi;exact ⟨g,u,q1,q2,q3,d,q4,xz1 d⟩) hS hp hB (by rw [Rj] at hn;exact hn) hl
