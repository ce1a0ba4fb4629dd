import Derived.Test.YtpdmkhnonbbhnaaGreatMlx
import Derived.Test.YtpdmkhnonbbhnaaGreatMpx
namespace Go.Proofs.YtpdmkhnonbbhnaaGreat
open Go.RowKit
set_option maxHeartbeats 8000000
set_option maxRecDepth 10000
def Ys:(d:Nat)->Pn d->Nat
 | 0,_=>0
 | d+1,t=>(if t.1.1=4 then (t.2.map (Ys d)).foldl max 0 else 0)+1
def Pt.deep (p:Pt):Nat:=Ys p.1 p.2
theorem Pt.deep_eq:∀p:Pt,p.deep=(if p.kind=4 then (p.kids.map Pt.deep).foldl max 0 else 0)+1
 | ⟨0,t⟩=>t.elim
 | ⟨d+1,t⟩=>by
  show (if t.1.1=4 then (t.2.map (Ys d)).foldl max 0 else 0)+1=(if t.1.1=4 then (((t.2.map λu=>(⟨d,u⟩:Pt))).map Pt.deep).foldl max 0 else 0)+1;rw [TL]
  rfl
theorem Js:∀(D:Nat) (p:Pt),p.1<D->p.deep<=p.sz
 | 0,p,h=>by omega
 | D+1,p,h=>by
  rw [p.deep_eq,p.sz_eq];by_cases h4:p.kind=4
  ·rw [Pc h4];have:=UR (p.kids.map Pt.deep) 0 (Q6 p.kids) (by omega) (λx hx=>by
    obtain ⟨q,hq,rfl⟩:=PI.1 hx;have h1:=Js D q (by have:=Pt.kids_lt hq;omega);have h2:=WQ hq;omega)
   omega
  rw [P7 h4];omega
theorem JO:∀(l:List Nat) (a m:Nat),m<l.foldl max a↔m<a\/∃x∈l,m<x
 | [],a,m=>by simp
 | b::l,a,m=>by
  rw [YD,JO l];constructor
  ·rintro (h | ⟨x,hx,h⟩)
   ·by_cases hm:m<a
    ·exact .inl hm
    exact .inr ⟨b,by simp,by omega⟩
   exact .inr ⟨x,by simp [hx],h⟩
  rintro (h | ⟨x,hx,h⟩)
  ·exact .inl (by omega)
  rcases Qa.1 hx with rfl | hx
  ·exact .inl (by omega)
  exact .inr ⟨x,hx,h⟩
theorem Ny:∀(l:Nat) (p:Pt),QL l p=true↔l<p.deep
 | 0,p=>by
  rw [p.deep_eq];exact ⟨λ_=>by omega,λ_=>rfl⟩
 | l+1,p=>by
  rw [p.deep_eq];unfold QL;rw [Tj,WY,UG];by_cases h4:p.kind=4
  ·rw [Pc h4];constructor
   ·rintro ⟨_,q,hq,h⟩;have:=(JO (p.kids.map Pt.deep) 0 l).2 (.inr ⟨q.deep,PI.2 ⟨q,hq,rfl⟩,(Ny l q).1 h⟩);omega
   intro h;rcases (JO (p.kids.map Pt.deep) 0 l).1 (by omega) with h | ⟨x,hx,h⟩
   ·omega
   obtain ⟨q,hq,rfl⟩:=PI.1 hx;exact ⟨h4,q,hq,(Ny l q).2 h⟩
  rw [P7 h4];constructor
  ·rintro ⟨h,_⟩;exact absurd h h4
  intro h;omega
theorem qn0:∀(D:Nat) (p:Pt),p.1<D->p.sz<=100000->∀(w:World) (S:Nat->Prop) (x:Value),(∀b,S b->b<w.heap.size)->TP w S x p->Calls Tryz.prog 22 #[x] w λr w'=>r= .returned (.int .i64 p.deep)/\Below w.heap.size w w'
 | 0,p,h,_,_,_,_,_,_=>by omega
 | D+1,p,hD,hsz,w,S,x,hS,hx=>by
  have IH:=qn0 D;obtain ⟨ka,kc,rfl,hn,hl,hk⟩:=hx;have eZ:p.kids.length<=100000:=by have:=Xs p.kids;have:=p.sz_eq;omega
  have HK:=P4 hk;have HS:=P4 hS;have yy:=p.deep_eq;have qH:=Js (D+1) p hD;have eu:Hid (∀i (h:i<p.kids.length),p.kids[i].1<D/\p.kids[i].sz<=100000/\p.kids[i].deep<=100000):=λi h=>by
   have h1:=Pt.kids_lt (Px h);have h2:=WQ (Px h);have h3:=p.sz_eq;have h4:=Js D p.kids[i] (by omega);exact ⟨by omega,by omega,by omega⟩
  have DZ:Hid (∀i,((p.kids.map Pt.deep).take i).foldl max 0<=100000):=λi=>UR _ _ _ (by omega) (λy hy=>by
   obtain ⟨q,hq,rfl⟩:=PI.1 (Sa hy);obtain ⟨j,hj,rfl⟩:=RO hq;exact (eu.out j hj).2.2)
  have BD:Hid _:=yy;clear hk hS yy qH hn hl hD hsz;obtain ⟨W,hW⟩:∃W,W=w.alloc (Obj.cells #[.int .i64 p.kind,.string ⟨p.name.toArray⟩,.int .i64 p.num,.slice ka p.kids.length kc] 50):=⟨_,rfl⟩;obtain ⟨an,mK⟩:=Oy hW;have gX:Hid _:=mK;clear an mK;generalize p.name=pn at *
  generalize p.num=pm at *
  generalize p.kind=pk at *
  by_cases h4:pk=4
  ·subst h4;rw [Pc rfl] at BD;go_enter Tryz.func22,Tryz.ntmps22;go_wp2;rw [<-hW];clear hW
   go_loopw [3,4] (λmv iv wr=>∃i:Nat,i<=p.kids.length/\mv= .int .i64 (((p.kids.map Pt.deep).take i).foldl max 0:Nat)/\iv= .int .i64 i/\Hid (Below W.heap.size W wr)) (λ_ iv _=>p.kids.length-(intOf iv).toNat)
   case atStart=>exact ⟨0,by omega,by go_num,by go_num,Pb _ _⟩
   obtain ⟨i,hi,rfl,rfl,HT⟩:=hrel;obtain ⟨az,b0,b1,b2,b3⟩:=gX.out wr HT.out;by_cases ag:i<p.kids.length
   ·obtain ⟨g,o,rfl,aM,_,a0,a1,a2,qa,qc,a3,hv⟩:=(HK.on (OZ.of az HS.out)).at ag;have CN:=IH p.kids[i] (eu.out i ag).1 (eu.out i ag).2.1 wr S _ (λb hb=>PQ (HS.out b hb) az.size) hv;have bu:Hid (((p.kids.map Pt.deep).take (i+1)).foldl max 0=max (((p.kids.map Pt.deep).take i).foldl max 0) p.kids[i].deep):=by
     have:=OG (p.kids.map Pt.deep) i 0 (by simpa using ag);rw [R7] at this;exact this
    have i1:(0:Int)<=(i:Int):=by omega
    have i2:(i:Int)<(p.kids.length:Int):=by omega
    clear hv IH;generalize ((p.kids.map Pt.deep).take i).foldl max 0=M at *
    generalize p.kids[i].deep=N at *
    generalize p.kids[i]=q at *
    go_wp2_with (first | (go_at_call 22;(with_reducible refine Pe CN ?_);rintro e' w2 ⟨rfl,hb2⟩))
    have aS:=P4 (HT.trans (hb2.mono HT.size));clear hb2 CN;go_wp2
    go_roundw
    case rel=>exact ⟨i+1,ag,by rw [bu.out];congr 1;omega,by go_num,aS.out⟩
    case measure=>simp [intOf];omega
   obtain rfl:i=p.kids.length:=by omega
   have DY:=DZ.out p.kids.length;have dJ:Hid (((p.kids.map Pt.deep).take p.kids.length).foldl max 0=(p.kids.map Pt.deep).foldl max 0):=by
    show _=_
    congr 1
    exact Xi (by simp)
   rw [dJ.out] at DY⊢;generalize BC:(p.kids.map Pt.deep).foldl max 0=M2 at *
   clear BC;go_wp2;go_ret;rw [BD.out];exact ⟨rfl,az⟩
  have be3:Hid (p.deep=1):=by
   have:=BD.out
   rwa [P7 h4] at this
  clear BD;obtain ⟨az,b0,b1,b2,b3⟩:=gX.out W (Pb _ _);have e4:(pk==4)=false:=by simpa using h4
  go_enter Tryz.func22,Tryz.ntmps22;go_wp2;rw [<-hW];clear hW;refine wp_loop_rounds 1 ?_;rw [rounds_succ];go_wp2
  all_goals
   go_ret;rw [be3.out];exact ⟨rfl,az⟩
