import Derived.Test.YtpdmkhnonbbhnaaGreatHp
import Derived.WalkSpells
import Derived.WalkLawsBesides
import Derived.Deep.RegionHeld3
import Derived.Deep.Cut
import Derived.BigQuiet
namespace Go.Proofs.YtpdmkhnonbbhnaaGreat
open Go.RowKit
set_option maxHeartbeats 4000000
set_option maxRecDepth 10000
theorem LP (v u:Value)(l k:List Int)(w:World)(S:Nat->Prop)(hS:∀b,S b->b<w.heap.size)(h:Rl w S v l)(h':Rl w S u k)(hbig:l.length<140737488355328):
  Calls Tryz.prog 18 #[v,u] w λr w'=>r= .returned (.bool (decide (l=k)))/\Below w.heap.size w w':=by
 obtain ⟨ad,cap,rfl,hl⟩:=Pd.open h;obtain ⟨ad',cap',rfl,hk⟩:=Pd.open h';clear h h';have HS:=P4 hS;clear hS;by_cases hn:l.length=k.length
 ·generalize hR:decide (l=k)=R;have HR:=P4 hR;have HN:=P4 hn;rw [<-hn];clear hR hn;go_enter Tryz.func18,Tryz.ntmps18;go_wp2
  go_loopw [5] (λi wr=>∃j:Nat,j<=l.length/\i= .int .i64 j/\Below w.heap.size w wr/\Hid (∀i,i<j->l[i]? =k[i]?)) (λi _=>l.length-(intOf i).toNat)
  case atStart=>exact ⟨0,by omega,by go_num,Pb _ _,λi h=>by omega⟩
  obtain ⟨j,hj,rfl,cF,HJ⟩:=hrel;by_cases hlt:j<l.length
  ·have fw:j<k.length:=by have:=HN.out;omega
   obtain ⟨g,o,rfl,hc,hl⟩:=hl (λe=>by rw [e] at hlt;simp at hlt);obtain ⟨g',o',rfl,di,hk⟩:=hk (λe=>by rw [e] at fw;simp at fw);obtain ⟨a1,a2⟩:=hl j hlt;obtain ⟨b1,b2⟩:=hk j fw;have p1:=(cF.cell (p:=⟨g,o+j*1,none⟩) (HS.out _ a1)).trans a2;have p2:=(cF.cell (p:=⟨g',o'+j*1,none⟩) (HS.out _ b1)).trans b2;rw [R4] at p1 p2;rw [<-HN.out] at di;clear hl hk a1 a2 b1 b2;by_cases he:l[j]=k[j]
   ·rw [<-he] at p2;have HE:Hid (l[j]? =k[j]?):=by show l[j]? =k[j]?;rw [PR hlt,PR fw,he]
    clear he;have i1:(0:Int)<=(j:Int):=by omega
    have i2:(j:Int)<(l.length:Int):=by omega
    generalize l[j]=x at p1 p2;have hx:(x !=x)=false:=by simp
    go_wp2
    go_region
    all_goals
     go_wp2
     go_roundw
     case rel=>
      refine ⟨j+1,hlt,by go_num,by first | exact cF | exact cF.drew,λi h=> ?_⟩;by_cases mF:i=j
      ·rw [mF];exact HE.out
      exact HJ.out i (by omega)
     case measure=>simp [intOf];omega
   have HF:Hid (R=false):=by
    show R=false;rw [<-HR.out,La];rintro rfl;exact he rfl
   have i1:(0:Int)<=(j:Int):=by omega
   have i2:(j:Int)<(l.length:Int):=by omega
   generalize l[j]=x at p1 he;generalize k[j]=y at p2 he;have hx:(x !=y)=true:=by simpa using he
   clear he;go_wp2
   go_region
   all_goals
    go_wp2;go_ret;exact ⟨by rw [HF.out];rfl,by first | exact cF | exact cF.drew⟩
  have HF:Hid (R=true):=by
   show R=true;rw [<-HR.out,M5];refine Lt λi=> ?_;by_cases hi:i<j
   ·exact HJ.out i hi
   rw [Z3 (by omega),Z3 (by have:=HN.out;omega)]
  go_wp2;go_ret;exact ⟨by rw [HF.out];rfl,cF⟩
 have hF:decide (l=k)=false:=Ti (λe=>hn (by rw [e]));rw [hF];have am:¬(l.length:Int)=(k.length:Int):=by omega
 clear hl hk;go_enter Tryz.func18,Tryz.ntmps18;go_wp2;go_ret;exact ⟨rfl,Pb _ _⟩
theorem Jz:∀(D:Nat) (v u:Value) (ps:List Pt) (w:World) (S:Nat->Prop),(∀p∈ps,p.1<D)->(∀b,S b->b<w.heap.size)->ps.length<140737488355328->Pl w S v ps->Pl w S u ps->
  Calls Tryz.prog 12 #[v,u] w λr w'=>r= .returned (.bool true)/\Below w.heap.size w w'
 | 0,v,u,ps,w,S,hD,hB,hbig,h,h'=>by
  obtain rfl:ps=[]:=by
   cases ps with
   | nil=>rfl
   | cons p r=>exact absurd (hD p (by simp)) (by omega)
  obtain ⟨ad,cap,rfl,_⟩:=Pd.open h;obtain ⟨ad',cap',rfl,_⟩:=Pd.open h';clear h h';go_enter Tryz.func12,Tryz.ntmps12;go_wp2;refine wp_loop_rounds 1 ?_;rw [rounds_succ];go_wp2;go_ret;exact ⟨rfl,Pb _ _⟩
 | D+1,v,u,ps,w,S,hD,hB,hbig,h,h'=>by
  have IH:=Jz D;obtain ⟨ad,cap,rfl,hl⟩:=Pd.open h;obtain ⟨ad',cap',rfl,hk⟩:=Pd.open h';have HB:=P4 hB;have HD:=P4 hD;clear h h' hD hB;go_enter Tryz.func12,Tryz.ntmps12;go_wp2
  go_loopw [5] (λi wr=>∃j:Nat,j<=ps.length/\i= .int .i64 j/\Below w.heap.size w wr) (λi _=>ps.length-(intOf i).toNat)
  case atStart=>exact ⟨0,by omega,by go_num,Pb _ _⟩
  obtain ⟨j,hj,rfl,cF⟩:=hrel;by_cases hlt:j<ps.length
  ·obtain ⟨g,o,rfl,hc,cj⟩:=hl (λe=>by rw [e] at hlt;simp at hlt);obtain ⟨g',o',rfl,di,hk2⟩:=hk (λe=>by rw [e] at hlt;simp at hlt);have n9:OZ S w wr:=OZ.of cF HB.out;obtain ⟨a0,p0,p1,p2,l1,l2,ad1,cp1,p3,P1⟩:=((cj j hlt).on n9).open;obtain ⟨b0,q0,q1,q2,_,_,ad2,cp2,q3,P2⟩:=((hk2 j hlt).on n9).open;have sL:∀p∈ps[j].kids,p.1<D:=λp hp=>by
    have:=HD.out ps[j] (Px hlt);have:=Pt.kids_lt hp;omega
   have aW:w.heap.size<=wr.heap.size:=cF.size;have CJ:∀W',Below wr.heap.size wr W'->Calls Tryz.prog 12 #[.slice ad1 ps[j].kids.length cp1,.slice ad2 ps[j].kids.length cp2] W' λr w'=>r= .returned (.bool true)/\Below W'.heap.size W' w':=λW' aj=>by
    have we:∀b,S b->b<wr.heap.size:=λb hb=>by have:=HB.out b hb;omega
    exact IH _ _ _ W' S sL (λb hb=>by have:=aj.size;have:=we b hb;omega) l2 (P1.on (OZ.of aj we)) (P2.on (OZ.of aj we))
   have fK:g<wr.heap.size/\g'<wr.heap.size:=by have:=HB.out _ a0;have:=HB.out _ b0;omega
   have i1:(0:Int)<=(j:Int):=by omega
   have i2:(j:Int)<(ps.length:Int):=by omega
   generalize ps[j].kids.length=n1 at CJ p3 q3;generalize ps[j].kind=k1 at p0 q0;generalize (⟨ps[j].name.toArray⟩:ByteArray)=s1 at p1 q1;generalize ps[j].num=m1 at p2 q2;clear l1 l2 P1 P2 hl hk cj hk2 IH sL;have e1:(k1 !=k1)=false:=by simp
   have e3:(m1 !=m1)=false:=by simp
   go_wp2
   go_region_held3 (λw'=>w'.cell? ⟨g,o+j*4+3,none⟩=some (.slice ad1 n1 cp1)/\w'.cell? ⟨g',o'+j*4+3,none⟩=some (.slice ad2 n1 cp2)) (first | exact ⟨p3,q3⟩ | assumption | (have hk:∀p:Addr,p.block<wr.heap.size->w1.cell? p=wr.cell? p:=λp hp=>hb1.cell hp;exact ⟨(hk _ fK.1).trans p3,(hk _ fK.2).trans q3⟩) | go_keep)
    (first | (go_at_call 12;(with_reducible refine Pe (CJ _ ?_) ?_);exact (Pb _ _).drew;rintro e' w1 ⟨rfl,hb1⟩))
   all_goals
    have hk:∀p:Addr,p.block<wr.heap.size->w1.cell? p=wr.cell? p:=λp hp=>hb1.cell hp;have p0:=(hk ⟨g,o+j*4,none⟩ fK.1).trans p0;have p1:=(hk ⟨g,o+j*4+1,none⟩ fK.1).trans p1;have p2:=(hk ⟨g,o+j*4+2,none⟩ fK.1).trans p2;have q0:=(hk ⟨g',o'+j*4,none⟩ fK.2).trans q0;have q1:=(hk ⟨g',o'+j*4+1,none⟩ fK.2).trans q1;have q2:=(hk ⟨g',o'+j*4+2,none⟩ fK.2).trans q2;have hb2:Below w.heap.size w w1:=cF.drew.trans (hb1.mono aW);clear hb1 CJ p3 q3 hk;go_wp2
    go_quiet (fail)
    all_goals
     go_wp2
     go_roundw
     case rel=>exact ⟨j+1,hlt,by go_num,⟨hb2.os,hb2.tape,hb2.output,hb2.size,hb2.block⟩⟩
     case measure=>simp [intOf];omega
  go_wp2;go_ret;exact ⟨rfl,cF⟩
theorem Vl (ps:List Pt)(j:Nat)(h:j<ps.length):Q6 (ps.take (j+1))=Q6 (ps.take j)+ps[j].sz:=by
 rw [S1,PR h,Lh];simp [Q6]
theorem nh0:∀(D:Nat) (v:Value) (ps:List Pt) (left:Int) (w:World) (S:Nat->Prop),(∀p∈ps,p.1<D)->(∀b,S b->b<w.heap.size)->ps.length<140737488355328->-1<=left->left<=10000->Pl w S v ps->
  Calls Tryz.prog 19 #[v,.int .i64 left] w λr w'=>(∃x:Int,r= .returned (.int .i64 x)/\-1<=x/\x<=left/\(0<=x->(Q6 ps:Int)<=left-x))/\Below w.heap.size w w'
 | 0,v,ps,left,w,S,hD,hB,hbig,h1,h2,h=>by
  obtain rfl:ps=[]:=by
   cases ps with
   | nil=>rfl
   | cons p r=>exact absurd (hD p (by simp)) (by omega)
  obtain ⟨ad,cap,rfl,_⟩:=Pd.open h;clear h;go_enter Tryz.func19,Tryz.ntmps19;go_wp2;refine wp_loop_rounds 1 ?_;rw [rounds_succ];go_wp2;go_ret;exact ⟨⟨left,rfl,h1,Yp _,λ_=>by simp [Q6]⟩,Pb _ _⟩
 | D+1,v,ps,left,w,S,hD,hB,hbig,h1,h2,h=>by
  have IH:=nh0 D;obtain ⟨ad,cap,rfl,hl⟩:=Pd.open h;have HB:=P4 hB;have HD:=P4 hD;clear h hD hB;go_enter Tryz.func19,Tryz.ntmps19;go_wp2
  go_loopw [1,5] (λlv i wr=>∃(j:Nat) (x:Int),j<=ps.length/\i= .int .i64 j/\lv= .int .i64 x/\-1<=x/\x<=left/\Hid (0<=x->(Q6 (ps.take j):Int)<=left-x)/\Below w.heap.size w wr) (λ_ i _=>ps.length-(intOf i).toNat)
  case atStart=>exact ⟨0,left,by omega,by go_num,rfl,h1,Yp _,λ_=>by simp [Q6],Pb _ _⟩
  obtain ⟨j,x,hj,rfl,rfl,ko,iU,HX,cF⟩:=hrel;by_cases hlt:j<ps.length
  ·by_cases lF:0<=x
   ·obtain ⟨g,o,rfl,hc,cj⟩:=hl (λe=>by rw [e] at hlt;simp at hlt);have n9:OZ S w wr:=OZ.of cF HB.out;obtain ⟨a0,p0,p1,p2,l1,l2,ad1,cp1,p3,P1⟩:=((cj j hlt).on n9).open;have sL:∀p∈ps[j].kids,p.1<D:=λp hp=>by
     have:=HD.out ps[j] (Px hlt);have:=Pt.kids_lt hp;omega
    have aW:w.heap.size<=wr.heap.size:=cF.size;have CJ:∀W',Below wr.heap.size wr W'->Calls Tryz.prog 19 #[.slice ad1 ps[j].kids.length cp1,.int .i64 (x-1)] W' λr w'=>(∃y:Int,r= .returned (.int .i64 y)/\-1<=y/\y<=x-1/\(0<=y->(Q6 ps[j].kids:Int)<=x-1-y))/\Below W'.heap.size W' w':=λW' aj=>by
     have we:∀b,S b->b<wr.heap.size:=λb hb=>by have:=HB.out b hb;omega
     exact IH _ _ _ W' S sL (λb hb=>by have:=aj.size;have:=we b hb;omega) l2 (by omega) (by omega) (P1.on (OZ.of aj we))
    have fK:g<wr.heap.size:=by have:=HB.out _ a0;omega
    have hs:Hid (Q6 (ps.take (j+1))=Q6 (ps.take j)+(1+Q6 ps[j].kids)):=by
     show Q6 (ps.take (j+1))=Q6 (ps.take j)+(1+Q6 ps[j].kids);rw [Vl ps j hlt,Pt.sz_eq]
    have HS:Hid (Q6 ps[j].kids=Q6 ps[j].kids):=rfl;generalize ps[j].kids.length=n1 at CJ p3;generalize Br:Q6 ps[j].kids=sk at hs CJ;have i1:(0:Int)<=(j:Int):=by omega
    have i2:(j:Int)<(ps.length:Int):=by omega
    clear l1 l2 P1 hl cj IH sL Br HS p0 p1 p2
    go_wp2_with (go_at_call 19;(with_reducible refine Pe (CJ _ ?_) ?_);exact Pb _ _;rintro e' w1 ⟨⟨y,rfl,hy1,hy2,hy3⟩,hb1⟩)
    all_goals
     have HY:=P4 hy3;have hb2:Below w.heap.size w w1:=cF.trans (hb1.mono aW);clear hb1 CJ p3 hy3;go_wp2
     go_roundw
     case rel=>exact ⟨j+1,y,hlt,by go_num,rfl,hy1,by omega,λh0=>by have:=HX.out lF;have:=HY.out h0;have:=hs.out;omega,hb2⟩
     case measure=>simp [intOf];omega
   have iX:x= -1:=by omega
   subst iX;go_wp2;go_ret;exact ⟨⟨-1,rfl,by omega,by omega,λh=>by omega⟩,cF⟩
  obtain rfl:j=ps.length:=by omega
  have bo3:Hid (0<=x->(Q6 ps:Int)<=left-x):=by
   have:=HX.out
   rwa [QM] at this
  clear HX;go_wp2;go_ret;exact ⟨⟨x,rfl,ko,iU,bo3.out⟩,cF⟩
