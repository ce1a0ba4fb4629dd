import Derived.Test.YtpdmkhnonbbhnaaGreatMpx
import Derived.Deep.CutRange
import Derived.Test.YtpdmkhnonbbhnaaGreatMcx
namespace Go.Proofs.YtpdmkhnonbbhnaaGreat
open Go.RowKit Go.Maps
set_option maxHeartbeats 8000000
set_option maxRecDepth 10000
section
variable {w w':World}{k:Kn}{fs:List Pu}{f lo:Nat}{t0:Int}{path:List Nat}{S:Nat->Prop}{v:Value}
def Ql (k:Kn)(fs:List Pu)(f:Nat)(t0:Int)(path:List Nat)(l1:List (Cs×Tr f))(l2:List (Tr f)):Option (List Qj):=if t0=1 then some [] else
  match l1.findSome? (λc=>(Qx k fs f c.2).map λy=>y++[(path,Pr k c.1)]) with
  | some y=>some y
  | none=>l2.findSome? λe=>(Qx k fs f e).map λy=>y++[(path,R8 k fs (l1.map (·.1)))]
theorem Yo (k:Kn)(fs:List Pu)(f:Nat)(t:Tr (f+1)):Qx k fs (f+1) t=Ql k fs f t.1.1 t.1.2.2 t.2.1 t.2.2:=rfl
theorem KC {α β:Type}(g:α->Option β):∀(l:List α) (i:Nat) (h:i<l.length),(∀j (hj:j<l.length),j<i->g l[j]=none)->∀y,g l[i]=some y->l.findSome? g=some y
 | a::r,0,_,_,y,hy=>by
  rw [List.findSome?_cons];simp only [Yx] at hy;rw [hy]
 | a::r,i+1,h,hj,y,hy=>by
  rw [List.findSome?_cons];have h0:=hj 0 (by simp) (by omega);simp only [Yx] at h0;rw [h0];exact KC g r i (by simpa using h) (λj bg5 bZ=>by
   have:=hj (j+1) (by simpa using bg5) (by omega);simpa using this) y (by simpa using hy)
theorem AH {α β:Type}(g:α->Option β)(l:List α)(h:∀j (hj:j<l.length),g l[j]=none):l.findSome? g=none:=by
 rw [List.findSome?_eq_none_iff];intro x hx;obtain ⟨j,hj,rfl⟩:=RO hx;exact h j hj
theorem zI {l1:List (Cs×Tr f)}{l2:List (Tr f)}(h0:t0≠1)(i:Nat)(hi:i<l1.length)(hn:∀j (hj:j<l1.length),j<i->Qx k fs f l1[j].2=none){y:List Qj}(hy:Qx k fs f l1[i].2=some y):Ql k fs f t0 path l1 l2=some (y++[(path,Pr k l1[i].1)]):=by
 unfold Ql;rw [P7 h0,KC _ l1 i hi (λj hj bZ=>by rw [hn j hj bZ];rfl) (y++[(path,Pr k l1[i].1)]) (by rw [hy];rfl)]
theorem sd0 {l1:List (Cs×Tr f)}{l2:List (Tr f)}(h0:t0≠1)(h1:∀j (hj:j<l1.length),Qx k fs f l1[j].2=none)(i:Nat)(hi:i<l2.length)(hn:∀j (hj:j<l2.length),j<i->Qx k fs f l2[j]=none){y:List Qj}(hy:Qx k fs f l2[i]=some y):Ql k fs f t0 path l1 l2=some (y++[(path,R8 k fs (l1.map (·.1)))]):=by
 unfold Ql;rw [P7 h0,AH _ l1 (λj hj=>by rw [h1 j hj];rfl)];exact KC _ l2 i hi (λj hj bZ=>by rw [hn j hj bZ];rfl) _ (by rw [hy];rfl)
theorem KU {l1:List (Cs×Tr f)}{l2:List (Tr f)}(h0:t0≠1)(h1:∀j (hj:j<l1.length),Qx k fs f l1[j].2=none)(h2:∀j (hj:j<l2.length),Qx k fs f l2[j]=none):Ql k fs f t0 path l1 l2=none:=by
 unfold Ql;rw [P7 h0,AH _ l1 (λj hj=>by rw [h1 j hj];rfl)];exact AH _ l2 (λj hj=>by rw [h2 j hj];rfl)
abbrev Rs:=Qj×(Option Addr×Nat)×(Option Addr×Nat)
def TR (x:Rs):List Value:=[.slice x.2.1.1 x.1.1.length x.2.1.2,.int .i64 x.1.2.1.1,.string ⟨x.1.2.1.2.1.toArray⟩,.int .i64 x.1.2.1.2.2,.slice x.2.2.1 x.1.2.2 x.2.2.2]
def YI (w:World)(lo:Nat)(own:Option Nat)(x:Rs):Prop:=(x.2.2.1=none/\x.1.2.2=0/\x.2.2.2=0)\/∃B,x.2.2.1=some ⟨B,0,none⟩/\x.2.2.2=x.1.2.2/\lo<=B/\B<w.heap.size/\S5 w B x.1.2.2/\own≠some B
structure WayAt (w:World)(S:Nat->Prop)(lo:Nat)(v:Value)(l:List Rs):Prop where
 own:w.ownsRow lo 150 5 v l.length (l.flatMap TR)
 path:∀x∈l,Pv w S (.slice x.2.1.1 x.1.1.length x.2.1.2) x.1.1
 args:∀x∈l,YI w lo v.ownBlock x
 apart:l.Pairwise λx y=>∀B,x.2.2.1=some ⟨B,0,none⟩->y.2.2.1≠some ⟨B,0,none⟩
 name:∀x∈l,x.1.2.1.2.1.length<140737488355328
theorem S5.on {B n:Nat}(h:S5 w B n)(hb:w'.heap[B]? =w.heap[B]?):S5 w' B n:=by
 obtain ⟨cur,h1,h2⟩:=h;exact ⟨cur,hb.trans h1,h2⟩
theorem WayAt.mono {np:Nat}{l:List Rs}(h:WayAt w S lo v l)(hl:np<=lo):WayAt w S np v l:=by
 refine ⟨⟨h.own.1,h.own.2.imp_right ?_⟩,h.path,λx hx=>(h.args x hx).imp_right ?_,h.apart,h.name⟩
 ·rintro ⟨g,cap,cur,h1,h2,h3⟩;exact ⟨g,cap,cur,h1,by omega,h3⟩
 rintro ⟨B,h1,h2,h3,h4⟩;exact ⟨B,h1,h2,by omega,h4⟩
theorem WayAt.on {l:List Rs}(h:WayAt w S lo v l)(hS:∀x,S x->x<w.heap.size)(hb:Below w.heap.size w w'):WayAt w' S lo v l:=by
 refine ⟨⟨h.own.1,h.own.2.imp_right ?_⟩,λx hx=>(h.path x hx).on (OZ.of hb hS),λx hx=>(h.args x hx).imp_right ?_,h.apart,h.name⟩
 ·rintro ⟨g,cap,cur,h1,h2,h3,h4⟩;exact ⟨g,cap,cur,h1,h2,(hb.block _ (PV h3)).trans h3,h4⟩
 rintro ⟨B,h1,h2,h3,h4,h5,h6⟩;exact ⟨B,h1,h2,h3,PQ h4 hb.size,h5.on (hb.block _ h4),h6⟩
theorem WayAt.snoc {w5 w7:World}{v':Value}{l:List Rs}{x:Rs}(h:WayAt w S lo v l)(hS:∀x,S x->x<lo)(iR:lo<=w.heap.size)(hb:Below w.heap.size w w5)(hp:Pv w S (.slice x.2.1.1 x.1.1.length x.2.1.2) x.1.1)(hn:x.1.2.1.2.1.length<140737488355328)
  (ha:(x.2.2.1=none/\x.1.2.2=0/\x.2.2.2=0)\/∃B,x.2.2.1=some ⟨B,0,none⟩/\x.2.2.2=x.1.2.2/\w.heap.size<=B/\B<w5.heap.size/\S5 w5 B x.1.2.2) (ho:w7.ownsRow lo 150 5 v' (l.length+1) (l.flatMap TR++TR x)) (hg:w5.grownBy w7 v.ownBlock) (hv:v'.ownBlock=v.ownBlock\/v'.ownBlock=some w5.heap.size):WayAt w7 S lo v' (l++[x]):=by
 have h5:=h.on (λy hy=>by have:=hS y hy;omega) hb;have hs:=hb.size;have Ad:∀g,v.ownBlock=some g->lo<=g/\g<w.heap.size:=λg e=>h.own.lt g e;have hk:OZ S w5 w7:=λy hy=>hg.block y (by have:=hS y hy;omega) (λe=>by have:=Ad y e.symm;have:=hS y hy;omega);have ji:∀B,B<w5.heap.size->v.ownBlock≠some B->v'.ownBlock≠some B:=λB hB am=>by
  rcases hv with e | e
  ·rw [e];exact am
  rw [e];intro e2;injection e2 with e2;omega
 refine ⟨?_,λy hy=> ?_,λy hy=> ?_,?_,λy hy=> ?_⟩
 ·rw [QP,WW];simpa using ho
 ·rcases PE.1 hy with hy | hy
  ·exact (h5.path y hy).on hk
  obtain rfl:=Ra.1 hy;exact (hp.on (OZ.of hb λz hz=>by have:=hS z hz;omega)).on hk
 ·rcases PE.1 hy with hy | hy
  ·refine (h5.args y hy).imp_right ?_;rintro ⟨B,h1,h2,h3,h4,h6,h7⟩;exact ⟨B,h1,h2,h3,PQ h4 hg.size,h6.on (hg.block B h4 λe=>h7 e.symm),ji B h4 h7⟩
  obtain rfl:=Ra.1 hy;refine ha.imp_right ?_;rintro ⟨B,h1,h2,h3,h4,h6⟩;have h7:v.ownBlock≠some B:=λe=>by have:=Ad B e;omega
  exact ⟨B,h1,h2,by omega,PQ h4 hg.size,h6.on (hg.block B h4 λe=>h7 e.symm),ji B h4 h7⟩
 ·rw [OP];refine ⟨h.apart,List.pairwise_singleton _ _,λy hy z hz B hB iZ=> ?_⟩;obtain rfl:=Ra.1 hz;have h1:B<w.heap.size:=by
   rcases h.args y hy with ⟨e,_⟩ | ⟨B',e,_,_,h4,_⟩
   ·rw [e] at hB;cases hB
   rw [e] at hB;injection hB with hB;injection hB with hB;omega
  rcases ha with ⟨e,_⟩ | ⟨B',e,_,h3,_⟩
  ·rw [e] at iZ;cases iZ
  rw [e] at iZ;injection iZ with iZ;injection iZ with iZ;omega
 rcases PE.1 hy with hy | hy
 ·exact h.name y hy
 obtain rfl:=Ra.1 hy;exact hn
theorem WayAt.nil (w:World)(S:Nat->Prop)(lo:Nat):WayAt w S lo (.slice none 0 0) []:=⟨U4 _ _ _ _,λx hx=>by simp at hx,λx hx=>by simp at hx,List.Pairwise.nil,λx hx=>by simp at hx⟩
def Wu (S:Nat->Prop)(res:Option (List Qj))(w:World)(r:Ending)(w':World):Prop:=Below w.heap.size w w'/\((res=none/\r= .returned (.tuple #[.slice none 0 0,.bool false]))\/∃y v l,res=some y/\r= .returned (.tuple #[v,.bool true])/\l.map (·.1)=y/\WayAt w' S w.heap.size v l)
end
section
variable {w:World}{S:Nat->Prop}{f g o:Nat}{k:Kn}{fs:List Pu}{v:Value}
def U9 (k:Kn)(fs:List Pu):(f:Nat)->Tr f->Prop
 | 0,_=>True
 | f+1,t=>(∀c∈t.2.1,c.1.1≠[]->c.1.2=0)/\(t.2.2≠[]->∃h:0<t.2.1.length,t.2.1[0].1.1≠[]->∃bh:(O' k t.2.1[0].1.1).1<fs.length,PJ k t.2.1[0].1.1 (t.2.1.map (·.1)) 0<fs[(O' k t.2.1[0].1.1).1].1.length)/\(∀c∈t.2.1,U9 k fs f c.2)/\∀e∈t.2.2,U9 k fs f e
theorem U9.zero (k:Kn)(fs:List Pu):∀f,U9 k fs f (Qz f)
 | 0=>trivial
 | _+1=>⟨λc h=>by simp [Qz] at h,λh=>by simp [Qz] at h,λc h=>by simp [Qz] at h,λc h=>by simp [Qz] at h⟩
def RK (w:World)(S:Nat->Prop)(f:Nat)(g o:Nat)(c:Cs×Tr f):Prop:=S g/\w.cell? ⟨g,o,none⟩=some (.string ⟨c.1.1.toArray⟩)/\w.cell? ⟨g,o+1,none⟩=some (.int .i64 c.1.2)/\c.1.1.length<140737488355328/\∃v0 v1 v2 v3 v4,w.cell? ⟨g,o+2,none⟩=some v0/\w.cell? ⟨g,o+3,none⟩=some v1/\w.cell? ⟨g,o+4,none⟩=some v2/\w.cell? ⟨g,o+5,none⟩=some v3/\w.cell? ⟨g,o+6,none⟩=some v4/\PL w S f (.agg #[v0,v1,v2,v3,v4]) c.2
theorem RK.on {w':World}{c:Cs×Tr f}(h:RK w S f g o c)(hb:OZ S w w'):RK w' S f g o c:=by
 obtain ⟨k0,k1,k2,k3,v0,v1,v2,v3,v4,c0,c1,c2,c3,c4,ht⟩:=h;exact ⟨k0,(hb.cell (p:=⟨g,o,none⟩) k0).trans k1,(hb.cell (p:=⟨g,o+1,none⟩) k0).trans k2,k3,v0,v1,v2,v3,v4,(hb.cell (p:=⟨g,o+2,none⟩) k0).trans c0,(hb.cell (p:=⟨g,o+3,none⟩) k0).trans c1,(hb.cell (p:=⟨g,o+4,none⟩) k0).trans c2,(hb.cell (p:=⟨g,o+5,none⟩) k0).trans c3,(hb.cell (p:=⟨g,o+6,none⟩) k0).trans c4,PL.below hb (λ_ h=>h) f _ _ ht⟩
theorem RK.row {c:Cs×Tr f}(h:RK w S f g o c):Tz w S g o c.1:=by
 obtain ⟨k0,k1,k2,k3,v0,v1,v2,v3,v4,c0,c1,c2,c3,c4,ht⟩:=h;obtain ⟨a,b,pa,pl,pc,ca,cl,cc,ea,el,ec,rfl,rfl,rfl,rfl,rfl⟩:=ht.vals;exact ⟨k0,k1,k2,k3,a,b,pa,pl,pc,ca,cl,cc,ea,el,ec,c0,c1,c2,c3,c4⟩
theorem ar1 {b:Nat}(fa:Option Addr)(fc g o cc:Nat)(l1:List (Cs×Tr f))(hS:∀b,S b->b<w.heap.size)(hM:PP w b k)(hK:KnOk k fs)(hF:PH w S (.slice fa fs.length fc) fs)(hcc:l1.length<=cc)(au:∀j (h:j<l1.length),RK w S f g (o+j*7) l1[j])(bg:l1.length<=200)
  (oI:∃h:0<l1.length,l1[0].1.1≠[]->∃bh:(O' k l1[0].1.1).1<fs.length,PJ k l1[0].1.1 (l1.map (·.1)) 0<fs[(O' k l1[0].1.1).1].1.length):
  Calls Tryz.prog 82 #[.agg #[.slice fa fs.length fc,.map (some b)],.slice (some ⟨g,o,none⟩) l1.length cc] w λr w'=>Below w.heap.size w w'/\∃v,r= .returned v/\SW w' w.heap.size (R8 k fs (l1.map (·.1))) v:=by
 obtain ⟨h0,hg⟩:=oI;have hr:∀j (h:j<(l1.map (·.1)).length),Tz w S g (o+j*7) (l1.map (·.1))[j]:=λj h=>by
  rw [R7];exact (au j (by simpa using h)).row
 have e0:(l1.map (·.1))[0]'(by simpa using h0)=l1[0].1:=R7 _;by_cases hc:l1[0].1.1=[]
 ·have:=vx1 (w:=w) (S:=S) (b:=b) (k:=k) fa fs fc g o cc (l1.map (·.1)) hS hM (by simpa using h0) (by simpa using hcc) (by simpa using bg) hr (by rw [e0];exact hc) (by rw [Xr hK];decide);rw [Qb] at this;exact this
 obtain ⟨bh,wE⟩:=hg hc;have:=vz1 (w:=w) (S:=S) (b:=b) (k:=k) fa fs fc g o cc (l1.map (·.1)) hS hM (by simpa using h0) (by simpa using hcc) (by simpa using bg) hr (by rw [e0];exact hc) hK hF (by rw [e0];exact bh) (by simp only [e0];exact wE);rw [Qb] at this;exact this
theorem Zi {k:Kn}{fs:List Pu}:∀(f:Nat) (t:Tr f) (y:List Qj),Qx k fs f t=some y->y.length<=f
 | 0,_,_,h=>by cases h
 | f+1,t,y,h=>by
  rw [Yo] at h;unfold Ql at h;by_cases h1:t.1.1=1
  ·rw [Pc h1] at h;obtain rfl:=Qs h;simp
  rw [P7 h1] at h;split at h
  ·rename_i z hz;obtain rfl:=Qs h;obtain ⟨c,_,hc⟩:=G4 hz;cases hr:Qx k fs f c.2 with
   | none=>rw [hr] at hc;cases hc
   | some u=>
    rw [hr] at hc;obtain rfl:=Qs hc;have:=Zi f c.2 u hr;simp;omega
  obtain ⟨c,_,hc⟩:=G4 h;cases hr:Qx k fs f c with
  | none=>rw [hr] at hc;cases hc
  | some u=>
   rw [hr] at hc;obtain rfl:=Qs hc;have:=Zi f c u hr;simp;omega
theorem Wo (h:PH w S v fs):∀f∈fs,∀n∈f.1,n.length<140737488355328:=by
 intro f hf n hn;rcases h with ⟨h0,_⟩ | ⟨g,o,cap,_,_,_,h⟩
 ·rw [h0] at hf;simp at hf
 obtain ⟨i,hi,rfl⟩:=RO hf;obtain ⟨_,⟨ad,c,_,hs⟩,_⟩:=h i hi;rcases hs with ⟨h0,_⟩ | ⟨g2,o2,c2,_,_,_,h2⟩
 ·rw [h0] at hn;simp at hn
 obtain ⟨j,hj,rfl⟩:=RO hn;exact (h2 j hj).2.2
theorem sf0 {c:Cs}(h:c.1.length<140737488355328):(Pr k c).1.2.1.length<140737488355328:=by
 unfold Pr;split
 ·simp
 exact h
theorem as1 (h:PH w S v fs)(cs:List Cs):(R8 k fs cs).1.2.1.length<140737488355328:=by
 cases cs with
 | nil=>simp [R8]
 | cons c r=>
  unfold R8;simp only;split
  ·exact sf0 (by simp)
  refine sf0 ?_;show List.length (match fs[(O' k c.1).1]? with | some f=>f.1.getD (PJ k c.1 (c::r) 0) [] | none=> [])<_;cases hf:fs[(O' k c.1).1]? with
  | none=>simp
  | some f=>
   have hm:f∈fs:=Tf hf;show (f.1.getD (PJ k c.1 (c::r) 0) []).length<_;rw [UU];cases hg:f.1[PJ k c.1 (c::r) 0]? with
   | none=>simp
   | some n=>exact Wo h f hm n (Tf hg)
def TC (k:Kn)(fs:List Pu)(f:Nat)(t:Tr f):Prop:=∀(w:World) (S:Nat->Prop) (x:Value) (fa:Option Addr) (fc b:Nat),(∀b,S b->b<w.heap.size)->PP w b k->PH w S (.slice fa fs.length fc) fs->PL w S f x t->
 Calls Tryz.prog 59 #[.agg #[.slice fa fs.length fc,.map (some b)],x] w (Wu S (Qx k fs f t) w)
theorem Tryz.info150:(Tryz.prog.info? 150).map (λi=>(i.zero,i.size,i.bytes))=some (some (.agg #[.slice none 0 0,.int .i64 0,.string ⟨#[]⟩,.int .i64 0,.slice none 0 0]),5,80):=by kernel_rfl
theorem L9 (t:Tr (f+1))(hK:KnOk k fs)(fk:f<=5001)(fY:t.2.1.length<=200/\t.2.2.length<=1)(BY:U9 k fs (f+1) t)(hC:∀c,(c∈t.2.1.map (·.2)\/c∈t.2.2)->TC k fs f c):TC k fs (f+1) t:=by
 intro w S x fa fc b hS hM hF hx;obtain ⟨pa,pc,ca,cc,ea,ec,rfl,hN,eP,fz⟩:=hx;obtain ⟨_,_,ce,aK⟩:=Pd.open eP;injection ce with ce ko ch;subst ce ch;obtain ⟨_,_,cJ,ay⟩:=Pd.open fz;injection cJ with cJ iU d9;subst cJ d9;clear ko iU;rw [Yo];have dl:Hid (∀i (h:i<t.2.1.length),TC k fs f t.2.1[i].2):=λi h=>hC _ (.inl (PI.2 ⟨_,Px h,rfl⟩));have bx:Hid (∀i (h:i<t.2.2.length),TC k fs f t.2.2[i]):=λi h=>hC _ (.inr (Px h));obtain ⟨bH,hs2⟩:=fY;obtain ⟨jg,Ae,_,_⟩:=BY;generalize t.1.1=t0 at *
 generalize t.1.2.1=t1 at *
 generalize t.1.2.2=path at *
 clear eP fz hC;generalize t.2.1=l1 at *
 generalize t.2.2=l2 at *
 have ep:Hid (l1≠[]->∃g o,ca=some ⟨g,o,none⟩/\l1.length<=cc/\∀j (h:j<l1.length),RK w S f g (o+j*7) l1[j]):=aK;have ei:Hid (l2≠[]->∃g o,ea=some ⟨g,o,none⟩/\l2.length<=ec/\∀j (h:j<l2.length),S g/\∃v0 v1 v2 v3 v4,w.cell? ⟨g,o+j*5,none⟩=some v0/\w.cell? ⟨g,o+j*5+1,none⟩=some v1/\w.cell? ⟨g,o+j*5+2,none⟩=some v2/\w.cell? ⟨g,o+j*5+3,none⟩=some v3/\w.cell? ⟨g,o+j*5+4,none⟩=some v4/\PL w S f (.agg #[v0,v1,v2,v3,v4]) l2[j]):=ay;have HS:Hid (∀b,S b->b<w.heap.size):=hS;have lk:Hid (PP w b k/\PH w S (.slice fa fs.length fc) fs/\KnOk k fs):=⟨hM,hF,hK⟩;have Ie:Hid (Pv w S (.slice pa path.length pc) path):=hN;have k8:Hid ((∀c∈l1,c.1.1≠[]->c.1.2=0)/\(l2≠[]->∃h:0<l1.length,l1[0].1.1≠[]->∃bh:(O' k l1[0].1.1).1<fs.length,PJ k l1[0].1.1 (l1.map (·.1)) 0<fs[(O' k l1[0].1.1).1].1.length)):=⟨jg,Ae⟩;have hW:∃W,W=(w.alloc (Obj.cells #[.slice fa fs.length fc,.map (some b)] 69)).alloc (Obj.cells #[.int .i64 t0,.int .i64 t1,.slice pa path.length pc,.slice ca l1.length cc,.slice ea l2.length ec] 30)/\Below w.heap.size w W/\W.heap.size=w.heap.size+2/\W.heap[w.heap.size]? =some (.cells #[.slice fa fs.length fc,.map (some b)] 69 (0,0))/\W.heap[w.heap.size+1]? =some (.cells #[.int .i64 t0,.int .i64 t1,.slice pa path.length pc,.slice ca l1.length cc,.slice ea l2.length ec] 30 (0,0)):=by
  refine ⟨_,rfl,((Pb _ _).alloc (P6 _) _).alloc (by simp) _,by simp,?_,?_⟩
  ·rw [Qq _ _ _ (by simp)];exact PF w _
  have:=PF (w.alloc (Obj.cells #[.slice fa fs.length fc,.map (some b)] 69)) (Obj.cells #[.int .i64 t0,.int .i64 t1,.slice pa path.length pc,.slice ca l1.length cc,.slice ea l2.length ec] 30);simpa using this
 obtain ⟨W,hW,an,aO,rk,cW⟩:=hW;have HW:Hid (Below w.heap.size w W/\W.heap.size=w.heap.size+2/\W.heap[w.heap.size]? =some (.cells #[.slice fa fs.length fc,.map (some b)] 69 (0,0))/\W.heap[w.heap.size+1]? =some (.cells #[.int .i64 t0,.int .i64 t1,.slice pa path.length pc,.slice ca l1.length cc,.slice ea l2.length ec] 30 (0,0))):=⟨an,aO,rk,cW⟩;have d0:=P0 (i:=0) cW rfl;have d3:=P0 (i:=3) cW rfl;obtain ⟨i0,d7,c8,bK,bJ⟩:=info_parts Tryz.info150;clear aK ay hS hM hF hK hN jg Ae an aO rk cW;generalize bo:path.length=pl at *
 have BQ:Hid (path.length=pl):=bo;clear bo;by_cases h1:t0=1
 ·subst h1;go_enter Tryz.func59,Tryz.ntmps59
  go_upto_region 1 with fail
  rw [<-hW];clear hW;go_wp2;refine Qv (v:= .tuple #[.slice none 0 0,.bool true]) (by simp [results,Tryz.results59,go_sem]) rfl ?_;exact ⟨HW.out.1,.inr ⟨[],_,[],by unfold Ql;rw [Pc rfl],rfl,rfl,WayAt.nil _ _ _⟩⟩
 have kt:Hid (t0≠1):=h1;have bp7:(t0==1)=false:=Y2.2 h1;clear h1;go_enter Tryz.func59,Tryz.ntmps59
 go_upto_region 1 with fail
 rw [<-hW];clear hW;go_wp2;clear d0 d3 bp7
 go_loopw [20] (λiv wr=>∃i:Nat,i<=l1.length/\iv= .int .i64 i/\Hid (Below W.heap.size W wr/\∀j (hj:j<l1.length),j<i->Qx k fs f l1[j].2=none)) (λiv _=>l1.length-(intOf iv).toNat)
 case atStart=>exact ⟨0,by omega,by go_num,Pb _ _,λj _ h=>by omega⟩
 obtain ⟨i,hi,rfl,HT⟩:=hrel;have aV:Hid (Below w.heap.size w wr):=HW.out.1.trans (HT.out.1.mono (by have:=HW.out.2.1;omega));by_cases ag:i<l1.length
 ·obtain ⟨g,o,rfl,hc,hr⟩:=ep.out (λe=>by rw [e] at ag;simp at ag);have pT:Hid (RK w S f g (o+i*7) l1[i]):=hr i ag;obtain ⟨s0,q0,q1,fL,v0,v1,v2,v3,v4,q2,q3,q4,q5,q6,ht⟩:=hr i ag;obtain ⟨a,b',pa',pl',pc',ca',cl',cc',ea',el',ec',rfl,rfl,rfl,rfl,rfl⟩:=ht.vals;have hk:=OZ.of aV.out HS.out;have q0:=(hk.cell (p:=⟨g,o+i*7,none⟩) s0).trans q0;have q1:=(hk.cell (p:=⟨g,o+i*7+1,none⟩) s0).trans q1;have q2:=(hk.cell (p:=⟨g,o+i*7+2,none⟩) s0).trans q2;have q3:=(hk.cell (p:=⟨g,o+i*7+3,none⟩) s0).trans q3;have q4:=(hk.cell (p:=⟨g,o+i*7+4,none⟩) s0).trans q4;have q5:=(hk.cell (p:=⟨g,o+i*7+5,none⟩) s0).trans q5;have q6:=(hk.cell (p:=⟨g,o+i*7+6,none⟩) s0).trans q6;have aD:∃W1,W1=wr.alloc (Obj.cells #[.string ⟨l1[i].1.1.toArray⟩,.int .i64 l1[i].1.2,.int .i64 a,.int .i64 b',.slice pa' pl' pc',.slice ca' cl' cc',.slice ea' el' ec'] 53)/\Below wr.heap.size wr W1/\W1.heap.size=wr.heap.size+1/\W1.heap[wr.heap.size]? =some (.cells #[.string ⟨l1[i].1.1.toArray⟩,.int .i64 l1[i].1.2,.int .i64 a,.int .i64 b',.slice pa' pl' pc',.slice ca' cl' cc',.slice ea' el' ec'] 53 (0,0)):=⟨_,rfl,(Pb _ _).alloc (P6 _) _,by simp,Qn wr _⟩;obtain ⟨W1,aD,hb1,ck,cP⟩:=aD;have x2:=P0 (i:=2) cP rfl;have x3:=P0 (i:=3) cP rfl;have x4:=P0 (i:=4) cP rfl;have x5:=P0 (i:=5) cP rfl;have x6:=P0 (i:=6) cP rfl;have aR:Below w.heap.size w W1:=aV.out.trans (hb1.mono aV.out.size);have gE:Below W.heap.size W W1:=HT.out.1.trans (hb1.mono HT.out.1.size);have dY:OZ S w W1:=OZ.of aR HS.out;have CN:=dl.out i ag W1 S _ fa fc b (λy hy=>by have:=HS.out y hy;have:=aR.size;omega) (lk.out.1.on (aR.block b (Mv.lt lk.out.1))) (lk.out.2.1.on dY) (PL.below dY (λ_ h=>h) f _ _ ht);have fZ:=(gE.block w.heap.size (by have:=HW.out.2.1;omega)).trans HW.out.2.2.1;have htb:=(gE.block (w.heap.size+1) (by have:=HW.out.2.1;omega)).trans HW.out.2.2.2;have k0:=P0 (i:=0) fZ rfl;have k1:=P0 (i:=1) fZ rfl;have bI:Hid (Below w.heap.size w W1/\Below W.heap.size W W1/\W1.heap.size=wr.heap.size+1/\w.heap.size+2<=wr.heap.size/\W1.heap[w.heap.size]? =some (.cells #[.slice fa fs.length fc,.map (some b)] 69 (0,0))/\W1.heap[w.heap.size+1]? =some (.cells #[.int .i64 t0,.int .i64 t1,.slice pa pl pc,.slice (some ⟨g,o,none⟩) l1.length cc,.slice ea l2.length ec] 30 (0,0))/\W1.heap[wr.heap.size]? =some (.cells #[.string ⟨l1[i].1.1.toArray⟩,.int .i64 l1[i].1.2,.int .i64 a,.int .i64 b',.slice pa' pl' pc',.slice ca' cl' cc',.slice ea' el' ec'] 53 (0,0))):=⟨aR,gE,ck,by have:=HT.out.1.size;have:=HW.out.2.1;omega,fZ,htb,cP⟩;have i1:(0:Int)<=(i:Int):=by omega
  have i2:(i:Int)<(l1.length:Int):=by omega
  cases hres:Qx k fs f l1[i].2 with
  | none=>
   rw [hres] at CN;have rt:Calls Tryz.prog 59 #[.agg #[.slice fa fs.length fc,.map (some b)],.agg #[.int .i64 a,.int .i64 b',.slice pa' pl' pc',.slice ca' cl' cc',.slice ea' el' ec']] W1 λr w'=>r= .returned (.tuple #[.slice none 0 0,.bool false])/\Below W1.heap.size W1 w':=Pe CN λr w' h=>by
    obtain ⟨hb,⟨_,h2⟩ | ⟨y,v,l,h2,_⟩⟩:=h
    ·exact ⟨h2,hb⟩
    cases h2
   have HN:Hid (∀j (hj:j<l1.length),j<i+1->Qx k fs f l1[j].2=none):=λj hj bZ=>by
    by_cases e:j=i
    ·subst e;exact hres
    exact HT.out.2 j hj (by omega)
   clear CN hk dY hr ht hb1 ck cP aR gE fZ htb hres;generalize l1[i].1.1=c0 at *
   generalize l1[i].1.2=c1 at *
   go_upto_region 6 with fail
   rw [<-aD];clear aD q0 q1 q2 q3 q4 q5 q6
   go_wp2_with (first | (go_at_call 59;(with_reducible refine Pe rt ?_);rintro e' w2 ⟨rfl,hb2⟩))
   exact ⟨⟨i+1,ag,by go_num,bI.out.2.1.trans (hb2.mono bI.out.2.1.size),HN.out⟩,by simp [intOf];omega⟩
  | some y=>
   rw [hres] at CN;have wy:=Zi f _ y hres;have rt:Calls Tryz.prog 59 #[.agg #[.slice fa fs.length fc,.map (some b)],.agg #[.int .i64 a,.int .i64 b',.slice pa' pl' pc',.slice ca' cl' cc',.slice ea' el' ec']] W1 λr w'=>∃v l,r= .returned (.tuple #[v,.bool true])/\Below W1.heap.size W1 w'/\l.map (·.1)=y/\WayAt w' S W1.heap.size v l:=Pe CN λr w' h=>by
    obtain ⟨hb,⟨h2,_⟩ | ⟨y',v,l,h2,h3,h4,h5⟩⟩:=h
    ·cases h2
    obtain rfl:=Qs h2;exact ⟨v,l,h3,hb,h4,h5⟩
   have HRS:Hid (Ql k fs f t0 path l1 l2=some (y++[(path,Pr k l1[i].1)])):=zI kt.out i ag HT.out.2 hres;have mU:Hid (∀w2,Below W1.heap.size W1 w2->(w2.cell? ⟨w.heap.size,0,none⟩=some (.slice fa fs.length fc)/\w2.cell? ⟨w.heap.size,1,none⟩=some (.map (some b))/\w2.cell? ⟨w.heap.size+1,2,none⟩=some (.slice pa pl pc)/\w2.cell? ⟨wr.heap.size,0,none⟩=some (.string ⟨l1[i].1.1.toArray⟩)/\w2.cell? ⟨wr.heap.size,1,none⟩=some (.int .i64 l1[i].1.2))/\
     Calls Tryz.prog 81 #[.agg #[.slice fa fs.length fc,.map (some b)],.string ⟨l1[i].1.1.toArray⟩,.int .i64 l1[i].1.2] w2 λr w3=>∃ad cap,r= .returned (.agg #[.int .i64 (Pr k l1[i].1).1.1,.string ⟨(Pr k l1[i].1).1.2.1.toArray⟩,.int .i64 (Pr k l1[i].1).1.2.2,.slice ad (Pr k l1[i].1).2 cap])/\Below w2.heap.size w2 w3/\((ad=none/\(Pr k l1[i].1).2=0/\cap=0)\/∃B,ad=some ⟨B,0,none⟩/\cap=(Pr k l1[i].1).2/\w2.heap.size<=B/\B<w3.heap.size/\S5 w3 B (Pr k l1[i].1).2)):=λw2 hb2=>by
    have hB:=bI.out;have e1:=(hb2.block w.heap.size (by omega)).trans hB.2.2.2.2.1;have e2:=(hb2.block (w.heap.size+1) (by omega)).trans hB.2.2.2.2.2.1;have e3:=(hb2.block wr.heap.size (by omega)).trans hB.2.2.2.2.2.2;refine ⟨⟨P0 e1 rfl,P0 e1 rfl,P0 e2 rfl,P0 e3 rfl,P0 e3 rfl⟩,?_⟩;have az:=hB.1.trans (hb2.mono hB.1.size);refine Pe (Jy (w:=w2) fa fs.length fc l1[i].1 (lk.out.1.on (az.block b (Mv.lt lk.out.1))) fL (WU lk.out.2.2 _) (λh=>k8.out.1 _ (Px ag) h)) ?_;rintro r w3 ⟨hb3,v,rfl,ad,cap,rfl,h⟩;exact ⟨ad,cap,rfl,hb3,h⟩
   have pY:Hid ((Pr k l1[i].1).1.2.1.length<140737488355328):=by
    show _<_;unfold Pr;split
    ·simp
    exact fL
   clear CN hk dY hr ht hb1 ck cP aR gE fZ htb hres fL;generalize Pr k l1[i].1=q at *
   generalize l1[i].1.1=c0 at *
   generalize l1[i].1.2=c1 at *
   go_upto_region 6 with fail
   rw [<-aD];clear aD q0 q1 q2 q3 q4 q5 q6
   go_upto_region 8 with (first | (go_at_call 59;(with_reducible refine Pe rt ?_);rintro e' w2 ⟨v2,l,rfl,hb2,hl,kE⟩))
   obtain ⟨⟨k0,k1,d2,Bh,qo⟩,_⟩:=mU.out w2 hb2;have CP:=(mU.out w2.drew hb2.drew).2;have jV:Hid (WayAt w2 S W1.heap.size v2 l/\Below W1.heap.size W1 w2/\l.map (·.1)=y):=⟨kE,hb2,hl⟩;have mr:l.length<=5001:=by
    have:=congrArg List.length hl;rw [Qb] at this;omega
   have Af:Hid (∀w3,Below w2.drew.heap.size w2.drew w3->w3.ownsRow W1.heap.size 150 5 v2 l.length (l.flatMap TR)/\W1.heap.size<=w3.heap.size/\w3.cell? ⟨w.heap.size+1,2,none⟩=some (.slice pa pl pc)):=λw3 hb3=>by
    have hb:Below w2.heap.size w2 w3:=⟨hb3.os,hb3.tape,hb3.output,hb3.size,hb3.block⟩;have h1:=jV.out;refine ⟨(h1.1.on (λy hy=>by have:=HS.out y hy;have:=bI.out.1.size;have:=h1.2.1.size;omega) hb).own,PZ h1.2.1.size hb.size,?_⟩;exact (mU.out w3 (h1.2.1.trans (hb.mono h1.2.1.size))).1.2.2.1
   clear hl kE x2 x3 x4 x5 x6 rt dl bx ei ep k8 HT pT q0 q1 q2 q3 q4 q5 q6 s0 hc hi i1 i2 bH hs2 wy fk kt;have fU:Hid (∀w',Below W1.heap.size W1 w'->(w'.cell? ⟨w.heap.size,0,none⟩=some (.slice fa fs.length fc)/\w'.cell? ⟨w.heap.size,1,none⟩=some (.map (some b)))/\w'.cell? ⟨w.heap.size+1,2,none⟩=some (.slice pa pl pc)/\w'.cell? ⟨wr.heap.size,0,none⟩=some (.string ⟨c0.toArray⟩)/\w'.cell? ⟨wr.heap.size,1,none⟩=some (.int .i64 c1)):=λw' hb=>by
    have:=(mU.out w' hb).1;exact ⟨⟨this.1,this.2.1⟩,this.2.2⟩
   have ik:Hid (∀w3,Below w2.drew.heap.size w2.drew w3->Below W1.heap.size W1 w3):=λw3 hb3=>by
    have h1:=jV.out.2.1;exact h1.trans (OO (⟨hb3.os,hb3.tape,hb3.output,hb3.size,hb3.block⟩:Below w2.heap.size w2 w3) h1.size)
   have ie:=fU.out w2.drew jV.out.2.1.drew;clear k0 k1 d2 Bh qo hb2
   go_region_held3 (λw'=>(w'.cell? ⟨w.heap.size,0,none⟩=some (.slice fa fs.length fc)/\w'.cell? ⟨w.heap.size,1,none⟩=some (.map (some b)))/\w'.cell? ⟨w.heap.size+1,2,none⟩=some (.slice pa pl pc)/\w'.cell? ⟨wr.heap.size,0,none⟩=some (.string ⟨c0.toArray⟩)/\w'.cell? ⟨wr.heap.size,1,none⟩=some (.int .i64 c1))
    (first | (with_reducible exact ie) | (with_reducible exact mw) | (with_reducible exact uK _) | (with_reducible exact mP))
    (first
    | (go_at_call 81;(with_reducible refine Pe CP ?_);rintro e' w3 ⟨pr,cp3,rfl,hb3,hB3⟩;obtain ⟨oJ,mx,_⟩:=Af.out w3 hb3;have mw:=fU.out w3 (ik.out w3 hb3);have uK:=λo=>fU.out (w3.alloc o) ((ik.out w3 hb3).alloc (ik.out w3 hb3).size o))
    | (refine step_append_lies _ (by rfl) _ _ _ (by rfl) W1.heap.size 150 i0 _ 5 80 Tryz.underlying117 d7 c8 bK bJ rfl (by omega) v2 l.length (l.flatMap TR) (by rfl) (oJ.alloc _) ⟨w3.heap.size,0,none⟩ 1 1 [.slice pa pl pc,.int .i64 q.1.1,.string ⟨q.1.2.1.toArray⟩,.int .i64 q.1.2.2,.slice pr q.2 cp3] (by rfl) (by rfl) (World.news_of_block (cs:= #[.slice pa pl pc,.int .i64 q.1.1,.string ⟨q.1.2.1.toArray⟩,.int .i64 q.1.2.2,.slice pr q.2 cp3]) (t:=150) (fr:=(0,0)) (PF w3 _)) (by simp [Value.oneCell']) (by omega) (by unfold maxLen;omega) (by omega) (by simp;omega) (w3.heap.size+1) (by simp) ?_;intro g7 gh w7 dO dG gW nh;have hb7:=((ik.out w3 hb3).alloc (ik.out w3 hb3).size _).grown dG (by simp;omega) (λy e=>(oJ.lt y e).1);have mP:=fU.out w7 hb7))
   go_wp2;refine Qv (v:= .tuple #[.slice (some ⟨g7,0,none⟩) (l.length+1) gh,.bool true]) (by simp [results,Tryz.results59,go_sem]) rfl ?_;have er:=bI.out;have bo:=BQ.out;have kE:=jV.out;have oK:Below w2.heap.size w2 w3:=⟨hb3.os,hb3.tape,hb3.output,hb3.size,hb3.block⟩;have eV:=er.1.trans (kE.2.1.mono er.1.size);have uL:=kE.1.snoc (x:=((path,q),(pa,pc),(pr,cp3))) (λy hy=>by have:=HS.out y hy;have:=er.1.size;omega) kE.2.1.size (oK.alloc oK.size _) (by have:=Ie.out.on (OZ.of eV HS.out);rw [<-bo] at this;exact this) pY.out (hB3.imp_right λ⟨B,h1,h2,h3,h4,h5⟩=>⟨B,h1,h2,h3,by simp;omega,h5.on (Qq _ _ _ h4)⟩) (by simpa [TR,bo] using dO) dG (v':= .slice (some ⟨g7,0,none⟩) (l.length+1) gh) (gW.imp (λe=>by show some g7=_;exact e.symm) (λe=>by show some g7=_;rw [e];simp));exact ⟨er.1.trans (hb7.mono er.1.size),.inr ⟨_,_,_,HRS.out,rfl,by rw [R6,kE.2.2];rfl,uL.mono er.1.size⟩⟩
 obtain rfl:i=l1.length:=by omega
 have i':Hid (∀j (hj:j<l1.length),Qx k fs f l1[j].2=none):=λj hj=>HT.out.2 j hj hj;have htb:=(HT.out.1.block (w.heap.size+1) (by have:=HW.out.2.1;omega)).trans HW.out.2.2.2;have d4:=P0 (i:=4) htb rfl;have gr:Hid (Below W.heap.size W wr):=HT.out.1;clear htb HT dl;go_wp2;clear d4
 go_loopw [48] (λiv gQ=>∃i:Nat,i<=l2.length/\iv= .int .i64 i/\Hid (Below W.heap.size W gQ/\∀j (hj:j<l2.length),j<i->Qx k fs f l2[j]=none)) (λiv _=>l2.length-(intOf iv).toNat)
 case atStart=>exact ⟨0,by omega,by go_num,gr.out,λj _ h=>by omega⟩
 clear aV gr;obtain ⟨i,hi,rfl,HT⟩:=hrel;have aV:Hid (Below w.heap.size w wr):=HW.out.1.trans (HT.out.1.mono (by have:=HW.out.2.1;omega));by_cases ag:i<l2.length
 ·obtain ⟨g,o,rfl,hc,hr⟩:=ei.out (λe=>by rw [e] at ag;simp at ag);obtain ⟨s0,v0,v1,v2,v3,v4,q2,q3,q4,q5,q6,ht⟩:=hr i ag;obtain ⟨a,b',pa',pl',pc',ca',cl',cc',ea',el',ec',rfl,rfl,rfl,rfl,rfl⟩:=ht.vals;have hk:=OZ.of aV.out HS.out;have q2:=(hk.cell (p:=⟨g,o+i*5,none⟩) s0).trans q2;have q3:=(hk.cell (p:=⟨g,o+i*5+1,none⟩) s0).trans q3;have q4:=(hk.cell (p:=⟨g,o+i*5+2,none⟩) s0).trans q4;have q5:=(hk.cell (p:=⟨g,o+i*5+3,none⟩) s0).trans q5;have q6:=(hk.cell (p:=⟨g,o+i*5+4,none⟩) s0).trans q6;have aD:∃W1,W1=wr.alloc (Obj.cells #[.int .i64 a,.int .i64 b',.slice pa' pl' pc',.slice ca' cl' cc',.slice ea' el' ec'] 30)/\Below wr.heap.size wr W1/\W1.heap.size=wr.heap.size+1/\W1.heap[wr.heap.size]? =some (.cells #[.int .i64 a,.int .i64 b',.slice pa' pl' pc',.slice ca' cl' cc',.slice ea' el' ec'] 30 (0,0)):=⟨_,rfl,(Pb _ _).alloc (P6 _) _,by simp,Qn wr _⟩;obtain ⟨W1,aD,hb1,ck,cP⟩:=aD;have x2:=P0 (i:=0) cP rfl;have x3:=P0 (i:=1) cP rfl;have x4:=P0 (i:=2) cP rfl;have x5:=P0 (i:=3) cP rfl;have x6:=P0 (i:=4) cP rfl;have aR:Below w.heap.size w W1:=aV.out.trans (hb1.mono aV.out.size);have gE:Below W.heap.size W W1:=HT.out.1.trans (hb1.mono HT.out.1.size);have dY:OZ S w W1:=OZ.of aR HS.out;have CN:=bx.out i ag W1 S _ fa fc b (λy hy=>by have:=HS.out y hy;have:=aR.size;omega) (lk.out.1.on (aR.block b (Mv.lt lk.out.1))) (lk.out.2.1.on dY) (PL.below dY (λ_ h=>h) f _ _ ht);have fZ:=(gE.block w.heap.size (by have:=HW.out.2.1;omega)).trans HW.out.2.2.1;have htb:=(gE.block (w.heap.size+1) (by have:=HW.out.2.1;omega)).trans HW.out.2.2.2;have k0:=P0 (i:=0) fZ rfl;have k1:=P0 (i:=1) fZ rfl;have bI:Hid (Below w.heap.size w W1/\Below W.heap.size W W1/\W1.heap.size=wr.heap.size+1/\w.heap.size+2<=wr.heap.size/\W1.heap[w.heap.size]? =some (.cells #[.slice fa fs.length fc,.map (some b)] 69 (0,0))/\W1.heap[w.heap.size+1]? =some (.cells #[.int .i64 t0,.int .i64 t1,.slice pa pl pc,.slice ca l1.length cc,.slice (some ⟨g,o,none⟩) l2.length ec] 30 (0,0))):=⟨aR,gE,ck,by have:=HT.out.1.size;have:=HW.out.2.1;omega,fZ,htb⟩;have i1:(0:Int)<=(i:Int):=by omega
  have i2:(i:Int)<(l2.length:Int):=by omega
  cases hres:Qx k fs f l2[i] with
  | none=>
   rw [hres] at CN;have rt:Calls Tryz.prog 59 #[.agg #[.slice fa fs.length fc,.map (some b)],.agg #[.int .i64 a,.int .i64 b',.slice pa' pl' pc',.slice ca' cl' cc',.slice ea' el' ec']] W1 λr w'=>r= .returned (.tuple #[.slice none 0 0,.bool false])/\Below W1.heap.size W1 w':=Pe CN λr w' h=>by
    obtain ⟨hb,⟨_,h2⟩ | ⟨y,v,l,h2,_⟩⟩:=h
    ·exact ⟨h2,hb⟩
    cases h2
   have HN:Hid (∀j (hj:j<l2.length),j<i+1->Qx k fs f l2[j]=none):=λj hj bZ=>by
    by_cases e:j=i
    ·subst e;exact hres
    exact HT.out.2 j hj (by omega)
   clear CN hk dY hr ht hb1 ck cP aR gE fZ htb hres
   go_upto_region 13 with fail
   rw [<-aD];clear aD q2 q3 q4 q5 q6
   go_wp2_with (first | (go_at_call 59;(with_reducible refine Pe rt ?_);rintro e' w2 ⟨rfl,hb2⟩))
   exact ⟨⟨i+1,ag,by go_num,bI.out.2.1.trans (hb2.mono bI.out.2.1.size),HN.out⟩,by simp [intOf];omega⟩
  | some y=>
   rw [hres] at CN;have wy:=Zi f _ y hres;have rt:Calls Tryz.prog 59 #[.agg #[.slice fa fs.length fc,.map (some b)],.agg #[.int .i64 a,.int .i64 b',.slice pa' pl' pc',.slice ca' cl' cc',.slice ea' el' ec']] W1 λr w'=>∃v l,r= .returned (.tuple #[v,.bool true])/\Below W1.heap.size W1 w'/\l.map (·.1)=y/\WayAt w' S W1.heap.size v l:=Pe CN λr w' h=>by
    obtain ⟨hb,⟨h2,_⟩ | ⟨y',v,l,h2,h3,h4,h5⟩⟩:=h
    ·cases h2
    obtain rfl:=Qs h2;exact ⟨v,l,h3,hb,h4,h5⟩
   have HRS:Hid (Ql k fs f t0 path l1 l2=some (y++[(path,R8 k fs (l1.map (·.1)))])):=sd0 kt.out i'.out i ag HT.out.2 hres;have oI:=k8.out.2 (λe=>by rw [e] at ag;simp at ag);have eD:l1≠[]:=λe=>by obtain ⟨h,_⟩:=oI;rw [e] at h;simp at h
   obtain ⟨g1,o1,rfl,pN,t6⟩:=ep.out eD;have mU:Hid (∀w2,Below W1.heap.size W1 w2->(w2.cell? ⟨w.heap.size,0,none⟩=some (.slice fa fs.length fc)/\w2.cell? ⟨w.heap.size,1,none⟩=some (.map (some b))/\w2.cell? ⟨w.heap.size+1,2,none⟩=some (.slice pa pl pc)/\w2.cell? ⟨w.heap.size+1,3,none⟩=some (.slice (some ⟨g1,o1,none⟩) l1.length cc))/\
     Calls Tryz.prog 82 #[.agg #[.slice fa fs.length fc,.map (some b)],.slice (some ⟨g1,o1,none⟩) l1.length cc] w2 λr w3=>∃ad cap,r= .returned (.agg #[.int .i64 (R8 k fs (l1.map (·.1))).1.1,.string ⟨(R8 k fs (l1.map (·.1))).1.2.1.toArray⟩,.int .i64 (R8 k fs (l1.map (·.1))).1.2.2,.slice ad (R8 k fs (l1.map (·.1))).2 cap])/\Below w2.heap.size w2 w3/\((ad=none/\(R8 k fs (l1.map (·.1))).2=0/\cap=0)\/∃B,ad=some ⟨B,0,none⟩/\cap=(R8 k fs (l1.map (·.1))).2/\w2.heap.size<=B/\B<w3.heap.size/\S5 w3 B (R8 k fs (l1.map (·.1))).2)):=λw2 hb2=>by
    have hB:=bI.out;have e1:=(hb2.block w.heap.size (by omega)).trans hB.2.2.2.2.1;have e2:=(hb2.block (w.heap.size+1) (by omega)).trans hB.2.2.2.2.2;refine ⟨⟨P0 e1 rfl,P0 e1 rfl,P0 e2 rfl,P0 e2 rfl⟩,?_⟩;have az:=hB.1.trans (hb2.mono hB.1.size);have kY:=OZ.of az HS.out;refine Pe (ar1 (w:=w2) (S:=S) fa fc g1 o1 cc l1 (λy hy=>by have:=HS.out y hy;have:=az.size;omega) (lk.out.1.on (az.block b (Mv.lt lk.out.1))) lk.out.2.2 (lk.out.2.1.on kY) pN (λj hj=>(t6 j hj).on kY) bH oI) ?_;rintro r w3 ⟨hb3,v,rfl,ad,cap,rfl,h⟩;exact ⟨ad,cap,rfl,hb3,h⟩
   have pY:Hid ((R8 k fs (l1.map (·.1))).1.2.1.length<140737488355328):=as1 lk.out.2.1 _;clear CN hk dY hr ht hb1 ck cP aR gE fZ htb hres oI eD t6;generalize R8 k fs (l1.map (·.1))=q at *
   go_upto_region 13 with fail
   rw [<-aD];clear aD q2 q3 q4 q5 q6
   go_upto_region 15 with (first | (go_at_call 59;(with_reducible refine Pe rt ?_);rintro e' w2 ⟨v2,l,rfl,hb2,hl,kE⟩))
   have CP:=(mU.out w2.drew hb2.drew).2;have jV:Hid (WayAt w2 S W1.heap.size v2 l/\Below W1.heap.size W1 w2/\l.map (·.1)=y):=⟨kE,hb2,hl⟩;have mr:l.length<=5001:=by
    have:=congrArg List.length hl;rw [Qb] at this;omega
   have Af:Hid (∀w3,Below w2.drew.heap.size w2.drew w3->w3.ownsRow W1.heap.size 150 5 v2 l.length (l.flatMap TR)/\W1.heap.size<=w3.heap.size):=λw3 hb3=>by
    have hb:Below w2.heap.size w2 w3:=⟨hb3.os,hb3.tape,hb3.output,hb3.size,hb3.block⟩;have h1:=jV.out;exact ⟨(h1.1.on (λy hy=>by have:=HS.out y hy;have:=bI.out.1.size;have:=h1.2.1.size;omega) hb).own,PZ h1.2.1.size hb.size⟩
   clear hl kE x2 x3 x4 x5 x6 rt bx ei ep k8 HT q2 q3 q4 q5 q6 s0 hc hi i1 i2 bH hs2 wy fk kt;have fU:Hid (∀w',Below W1.heap.size W1 w'->(w'.cell? ⟨w.heap.size,0,none⟩=some (.slice fa fs.length fc)/\w'.cell? ⟨w.heap.size,1,none⟩=some (.map (some b)))/\w'.cell? ⟨w.heap.size+1,2,none⟩=some (.slice pa pl pc)/\w'.cell? ⟨w.heap.size+1,3,none⟩=some (.slice (some ⟨g1,o1,none⟩) l1.length cc)):=λw' hb=>by
    have:=(mU.out w' hb).1;exact ⟨⟨this.1,this.2.1⟩,this.2.2⟩
   have ik:Hid (∀w3,Below w2.drew.heap.size w2.drew w3->Below W1.heap.size W1 w3):=λw3 hb3=>by
    have h1:=jV.out.2.1;exact h1.trans (OO (⟨hb3.os,hb3.tape,hb3.output,hb3.size,hb3.block⟩:Below w2.heap.size w2 w3) h1.size)
   have ie:=fU.out w2.drew jV.out.2.1.drew;clear k0 k1 hb2
   go_region_held3 (λw'=>(w'.cell? ⟨w.heap.size,0,none⟩=some (.slice fa fs.length fc)/\w'.cell? ⟨w.heap.size,1,none⟩=some (.map (some b)))/\w'.cell? ⟨w.heap.size+1,2,none⟩=some (.slice pa pl pc)/\w'.cell? ⟨w.heap.size+1,3,none⟩=some (.slice (some ⟨g1,o1,none⟩) l1.length cc))
    (first | (with_reducible exact ie) | (with_reducible exact mw) | (with_reducible exact uK _) | (with_reducible exact mP))
    (first
    | (go_at_call 82;(with_reducible refine Pe CP ?_);rintro e' w3 ⟨pr,cp3,rfl,hb3,hB3⟩;obtain ⟨oJ,mx⟩:=Af.out w3 hb3;have mw:=fU.out w3 (ik.out w3 hb3);have uK:=λo=>fU.out (w3.alloc o) ((ik.out w3 hb3).alloc (ik.out w3 hb3).size o))
    | (refine step_append_lies _ (by rfl) _ _ _ (by rfl) W1.heap.size 150 i0 _ 5 80 Tryz.underlying117 d7 c8 bK bJ rfl (by omega) v2 l.length (l.flatMap TR) (by rfl) (oJ.alloc _) ⟨w3.heap.size,0,none⟩ 1 1 [.slice pa pl pc,.int .i64 q.1.1,.string ⟨q.1.2.1.toArray⟩,.int .i64 q.1.2.2,.slice pr q.2 cp3] (by rfl) (by rfl) (World.news_of_block (cs:= #[.slice pa pl pc,.int .i64 q.1.1,.string ⟨q.1.2.1.toArray⟩,.int .i64 q.1.2.2,.slice pr q.2 cp3]) (t:=150) (fr:=(0,0)) (PF w3 _)) (by simp [Value.oneCell']) (by omega) (by unfold maxLen;omega) (by omega) (by simp;omega) (w3.heap.size+1) (by simp) ?_;intro g7 gh w7 dO dG gW nh;have hb7:=((ik.out w3 hb3).alloc (ik.out w3 hb3).size _).grown dG (by simp;omega) (λy e=>(oJ.lt y e).1);have mP:=fU.out w7 hb7))
   go_wp2;refine Qv (v:= .tuple #[.slice (some ⟨g7,0,none⟩) (l.length+1) gh,.bool true]) (by simp [results,Tryz.results59,go_sem]) rfl ?_;have er:=bI.out;have bo:=BQ.out;have kE:=jV.out;have oK:Below w2.heap.size w2 w3:=⟨hb3.os,hb3.tape,hb3.output,hb3.size,hb3.block⟩;have eV:=er.1.trans (kE.2.1.mono er.1.size);have uL:=kE.1.snoc (x:=((path,q),(pa,pc),(pr,cp3))) (λy hy=>by have:=HS.out y hy;have:=er.1.size;omega) kE.2.1.size (oK.alloc oK.size _) (by have:=Ie.out.on (OZ.of eV HS.out);rw [<-bo] at this;exact this) pY.out (hB3.imp_right λ⟨B,h1,h2,h3,h4,h5⟩=>⟨B,h1,h2,h3,by simp;omega,h5.on (Qq _ _ _ h4)⟩) (by simpa [TR,bo] using dO) dG (v':= .slice (some ⟨g7,0,none⟩) (l.length+1) gh) (gW.imp (λe=>by show some g7=_;exact e.symm) (λe=>by show some g7=_;rw [e];simp));exact ⟨er.1.trans (hb7.mono er.1.size),.inr ⟨_,_,_,HRS.out,rfl,by rw [R6,kE.2.2];rfl,uL.mono er.1.size⟩⟩
 obtain rfl:i=l2.length:=by omega
 have HE:Hid (Ql k fs f t0 path l1 l2=none):=KU kt.out i'.out λj hj=>HT.out.2 j hj hj;go_wp2;refine Qv (v:= .tuple #[.slice none 0 0,.bool false]) (by simp [results,Tryz.results59,go_sem]) rfl ?_;exact ⟨aV.out,.inl ⟨HE.out,rfl⟩⟩
theorem KD {k:Kn}{fs:List Pu}(hK:KnOk k fs):∀(f:Nat),f<=5001->∀(t:Tr f),Sm f t->U9 k fs f t->TC k fs f t
 | 0,_,t,_,_=>by
  intro w S x fa fc b hS hM hF hx;have h1:PL w S 1 x (Qz 1):=by
   have:x=_:=hx;rw [this];exact Y3 w S 1
  have:=L9 (f:=0) (Qz 1) hK (by omega) ⟨by simp [Qz],by simp [Qz]⟩ (U9.zero k fs 1) (λc h=>by simp [Qz] at h) w S x fa fc b hS hM hF h1;exact this
 | f+1,hf,t,hs,ht=>L9 t hK (by omega) ⟨hs.1,hs.2.1⟩ ht λc hc=>by
  rcases hc with hc | hc
  ·obtain ⟨d,hd,rfl⟩:=PI.1 hc;exact KD hK f (by omega) _ (hs.2.2.1 d hd) (ht.2.2.1 d hd)
  exact KD hK f (by omega) _ (hs.2.2.2 c hc) (ht.2.2.2 c hc)
end
section
variable {p:List Nat}{W w:World}{n B cnt lo k:Nat}{st l:List Rs}
def RJ (n:Nat)(st:List Qj)(p:List Nat):Prop:=∀j (h:j<p.length),(j=0/\p[j]<n)\/(0<j/\∃y∈st,y.1=p.take j/\p[j]<y.2.2)
def PD (n:Nat):List Qj->Prop
 | []=>True
 | x::r=>PD n r/\x.1≠[]/\x.1.length<=r.length+1/\RJ n r x.1/\∀y∈r,y.1≠x.1
theorem RJ.more {st Il:List Qj}(h:RJ n st p)(hs:∀y∈st,y∈Il):RJ n Il p:=λj hj=>by
 rcases h j hj with h | ⟨h0,y,hy,h1⟩
 ·exact .inl h
 exact .inr ⟨h0,y,hs y hy,h1⟩
theorem RJ.down {st:List Qj}(h:RJ n st p){x:Qj}(hx:x.1=p)(hp:p≠[])(i:Nat)(hi:i<x.2.2):RJ n (x::st) (p++[i]):=λj hj=>by
 have hl:j<=p.length:=by simp at hj;omega
 by_cases e:j=p.length
 ·subst e;right;refine ⟨Tk.2 hp,x,by simp,by rw [Nu rfl];exact hx,?_⟩;simpa using hi
 have eX:j<p.length:=by omega
 have e1:(p++[i])[j]=p[j]:=WO eX;have e2:(p++[i]).take j=p.take j:=List.take_append_of_le_length (by omega);rw [e1,e2];rcases h j eX with h | ⟨h0,y,hy,h1⟩
 ·exact .inl h
 exact .inr ⟨h0,y,RI _ hy,h1⟩
theorem PD.fresh {n:Nat}:∀{st:List Qj},PD n st->∀{p:List Nat},p≠[]->(∀y∈st,y.1≠p)->∀i,∀y∈st,y.1≠p++[i]
 | x::r,h,p,hp,hn,i,y,hy=>by
  obtain ⟨h1,_,_,h4,_⟩:=h;have hr:∀y∈r,y.1≠p:=λy hy=>hn y (RI _ hy);rcases Qa.1 hy with rfl | hy
  ·intro e;rw [e] at h4;rcases h4 p.length (by simp) with ⟨h0,_⟩ | ⟨_,z,hz,h5,_⟩
   ·exact hp (Yd h0)
   rw [Nu rfl] at h5;exact hr z hz h5
  exact PD.fresh h1 hp hr i y hy
def SC (st:List Rs)(p:List Nat):Option Rs:=st.find? λx=>x.1.1==p
theorem OL (x:Rs)(st:List Rs)(p:List Nat):SC (x::st) p=if x.1.1=p then some x else SC st p:=by
 unfold SC;rw [Ni];by_cases h:x.1.1=p
 ·rw [Pc h];have:(x.1.1==p)=true:=by rw [h];exact NR _
  rw [this]
 rw [P7 h];have:(x.1.1==p)=false:=Y2.2 h;rw [this]
theorem Dw (h:∀y∈st,y.1.1≠p):SC st p=none:=by
 unfold SC;rw [Ec];intro x hx e;exact h x hx (Us e)
theorem Nt {x:Rs}(h:SC st p=some x):x∈st/\x.1.1=p:=by
 unfold SC at h;have h2:(x.1.1==p)=true:=List.find?_some (p:=λx:Rs=>x.1.1==p) h;exact ⟨L7 h,Us h2⟩
theorem LO {n:Nat}:∀{st:List Rs},PD n (st.map (·.1))->∀{x:Rs},x∈st->SC st x.1.1=some x
 | y::r,h,x,hx=>by
  obtain ⟨h1,_,_,_,h5⟩:=h;rw [OL];rcases Qa.1 hx with rfl | hx
  ·rw [Pc rfl]
  rw [P7 λe=>h5 x.1 (PI.2 ⟨x,hx,rfl⟩) e.symm];exact LO h1 hx
def RB (st:List Rs)(p:List Nat):List Value:=match SC st p with
 | some x=> [.int .i64 x.1.2.1.1,.string ⟨x.1.2.1.2.1.toArray⟩,.int .i64 x.1.2.1.2.2,.slice x.2.2.1 x.1.2.2 x.2.2.2]
 | none=> [.int .i64 1,.string ⟨#[]⟩,.int .i64 0,.slice none 0 0]
def QK (W:World)(B cnt:Nat)(st:List Rs)(p:List Nat):Prop:=∃cur,W.heap[B]? =some (.cells cur 50 (0,0))/\cur.size=cnt*4/\∀i,i<cnt->∀c,c<4->cur[i*4+c]? =(RB st (p++[i]))[c]?
theorem QK.on {W':World}(h:QK W B cnt st p)(hb:W'.heap[B]? =W.heap[B]?):QK W' B cnt st p:=by
 obtain ⟨cur,h1,h2⟩:=h;exact ⟨cur,hb.trans h1,h2⟩
theorem QK.of_wild (h:S5 W B cnt)(hn:∀i,SC st (p++[i])=none):QK W B cnt st p:=by
 obtain ⟨cur,h1,h2,h3⟩:=h;refine ⟨cur,h1,h2,λi hi c hc=> ?_⟩;obtain ⟨q0,q1,q2,q3⟩:=h3 i hi;unfold RB;rw [hn i];rcases Sk c 1 with e | e
 ·obtain rfl:c=0:=by omega
  exact q0
 rcases Sk c 2 with e2 | e2
 ·obtain rfl:c=1:=by omega
  exact q1
 rcases Sk c 3 with e3 | e3
 ·obtain rfl:c=2:=by omega
  exact q2
 obtain rfl:c=3:=by omega
 exact q3
theorem QK.same {x:Rs}(h:QK W B cnt st p)(hn:∀i,x.1.1≠p++[i]):QK W B cnt (x::st) p:=by
 obtain ⟨cur,h1,h2,h3⟩:=h;refine ⟨cur,h1,h2,λi hi c hc=> ?_⟩;rw [h3 i hi c hc];unfold RB;rw [OL,P7 (hn i)]
def Rr (W:World)(B i:Nat)(a b c d:Value):World:=(((W.setCell ⟨B,i*4,none⟩ a).setCell ⟨B,i*4+1,none⟩ b).setCell ⟨B,i*4+2,none⟩ c).setCell ⟨B,i*4+3,none⟩ d
theorem XJ (W:World)(B i:Nat)(a b c d:Value)(y:Nat)(h:y≠B):(Rr W B i a b c d).heap[y]? =W.heap[y]? :=by
 unfold Rr;rw [PX _ _ _ _ h,PX _ _ _ _ h,PX _ _ _ _ h,PX _ _ _ _ h]
theorem L5 (W:World)(B i:Nat)(a b c d:Value):(Rr W B i a b c d).heap.size=W.heap.size:=by simp [Rr,World.setCell]
theorem QK.put {x:Rs}{i:Nat}(h:QK W B cnt st p)(hx:x.1.1=p++[i])(hi:i<cnt):QK (Rr W B i (.int .i64 x.1.2.1.1) (.string ⟨x.1.2.1.2.1.toArray⟩) (.int .i64 x.1.2.1.2.2) (.slice x.2.2.1 x.1.2.2 x.2.2.2)) B cnt (x::st) p:=by
 obtain ⟨cur,h1,h2,h3⟩:=h;have a0:=Q5 (i:=i*4) (v:= .int .i64 x.1.2.1.1) h1;have a1:=Q5 (i:=i*4+1) (v:= .string ⟨x.1.2.1.2.1.toArray⟩) a0;have a2:=Q5 (i:=i*4+2) (v:= .int .i64 x.1.2.1.2.2) a1;have a3:=Q5 (i:=i*4+3) (v:= .slice x.2.2.1 x.1.2.2 x.2.2.2) a2;refine ⟨_,a3,by simpa using h2,λj hj c hc=> ?_⟩;by_cases e:j=i
 ·subst e;have I2:RB (x::st) (p++[j])=[.int .i64 x.1.2.1.1,.string ⟨x.1.2.1.2.1.toArray⟩,.int .i64 x.1.2.1.2.2,.slice x.2.2.1 x.1.2.2 x.2.2.2]:=by
   unfold RB;rw [OL,Pc hx]
  rw [I2];have hb:j*4+3<cur.size:=by omega
  rcases Sk c 1 with e | e
  ·obtain rfl:c=0:=by omega
   rw [Q9,P7 (by omega),Q9,P7 (by omega),Q9,P7 (by omega),Q9,Pc (by omega),Pc (by omega)]
   rfl
  rcases Sk c 2 with e2 | e2
  ·obtain rfl:c=1:=by omega
   rw [Q9,P7 (by omega),Q9,P7 (by omega),Q9,Pc rfl,Pc (by simp;omega)]
   rfl
  rcases Sk c 3 with e3 | e3
  ·obtain rfl:c=2:=by omega
   rw [Q9,P7 (by omega),Q9,Pc rfl,Pc (by simp;omega)]
   rfl
  obtain rfl:c=3:=by omega
  rw [Q9,Pc rfl,Pc (by simp;omega)]
  rfl
 rw [Q9,P7 (by omega),Q9,P7 (by omega),Q9,P7 (by omega),Q9,P7 (by omega),h3 j hj c hc];unfold RB;rw [OL,P7 (by rw [hx];intro q;exact e (by simpa using (List.append_cancel_left q).symm))]
def QZ (st:List Rs)(Lb:Nat)(q:List Nat):Nat:=if q=[] then Lb else match SC st q with
 | some x=>match x.2.2.1 with
  | some a=>a.block
  | none=>0
 | none=>0
structure Mi (w:World)(lo Lb n:Nat)(l:List Rs)(k:Nat)(W:World):Prop where
 below:Below lo w W
 root:QK W Lb n (l.drop (l.length-k)) []
 done:∀x∈l.drop (l.length-k),∀B,x.2.2.1=some ⟨B,0,none⟩->QK W B x.1.2.2 (l.drop (l.length-k)) x.1.1
 todo:∀x∈l.take (l.length-k),∀B,x.2.2.1=some ⟨B,0,none⟩->S5 W B x.1.2.2
structure Mw (w:World)(lo Lb n:Nat)(l:List Rs):Prop where
 ok:PD n (l.map (·.1))
 args:∀x∈l,(x.2.2.1=none/\x.1.2.2=0/\x.2.2.2=0)\/∃B,x.2.2.1=some ⟨B,0,none⟩/\x.2.2.2=x.1.2.2/\lo<=B/\B<w.heap.size
 apart:l.Pairwise λx y=>∀B,x.2.2.1=some ⟨B,0,none⟩->y.2.2.1≠some ⟨B,0,none⟩
 root:w.heap.size<=Lb
 low:lo<=w.heap.size
theorem PD.ne {n:Nat}:∀{st:List Qj},PD n st->∀z∈st,z.1≠[]
 | _::_,h,z,hz=>by
  rcases Qa.1 hz with rfl | hz
  ·exact h.2.1
  exact PD.ne h.1 z hz
theorem PD.drop {n:Nat}:∀{l:List Qj}(j:Nat),PD n l->PD n (l.drop j)
 | _,0,h=>h
 | [],_+1,h=>h
 | _::_,j+1,h=>PD.drop j h.1
theorem LW (l:List Rs)(k:Nat)(h:k<l.length):l.drop (l.length-(k+1))=l[l.length-1-k]::l.drop (l.length-k):=by
 have e:l.length-(k+1)=l.length-1-k:=by omega
 rw [e,Ur (by omega)]
 congr 2
 omega
theorem Mw.suf {Lb:Nat}(h:Mw w lo Lb n l)(j:Nat):PD n ((l.drop j).map (·.1)):=by
 rw [J3];exact h.ok.drop j
theorem Mi.at {Lb:Nat}(hm:Mw w lo Lb n l)(h:Mi w lo Lb n l k W){p:List Nat}(hr:RJ n ((l.drop (l.length-k)).map (·.1)) p)(j:Nat)(hj:j<p.length):
  ∃cnt,QK W (QZ (l.drop (l.length-k)) Lb (p.take j)) cnt (l.drop (l.length-k)) (p.take j)/\p[j]<cnt/\((p.take j=[]/\QZ (l.drop (l.length-k)) Lb (p.take j)=Lb)\/∃y∈l.drop (l.length-k),y.1.1=p.take j/\y.2.2.1=some ⟨QZ (l.drop (l.length-k)) Lb (p.take j),0,none⟩/\y.2.2.2=y.1.2.2/\y.1.2.2=cnt/\SC (l.drop (l.length-k)) (p.take j)=some y):=by
 rcases hr j hj with ⟨h0,h1⟩ | ⟨h0,y,hy,h1,h2⟩
 ·subst h0;refine ⟨n,?_,h1,.inl ⟨rfl,rfl⟩⟩;exact h.root
 obtain ⟨z,hz,rfl⟩:=PI.1 hy;have Im:=LO (hm.suf _) hz;have am:p.take j≠[]:=by
  intro e;have:(p.take j).length=0:=by rw [e];rfl
  rw [RW] at this;omega
 rcases hm.args z (Sn hz) with ⟨_,e,_⟩ | ⟨B,e1,e2,e3,e4⟩
 ·omega
 have hb:QZ (l.drop (l.length-k)) Lb (p.take j)=B:=by
  unfold QZ;rw [P7 am,<-h1,Im];simp only [e1]
 rw [hb];refine ⟨z.1.2.2,?_,h2,.inr ⟨z,hz,h1,e1,e2,rfl,by rw [<-h1];exact Im⟩⟩;rw [<-h1];exact h.done z hz B e1
theorem Cg (p:List Nat)(j:Nat)(h:j<p.length):p.take j++[p[j]]=p.take (j+1):=(Zl p j h).symm
theorem Mi.next {Lb:Nat}(hm:Mw w lo Lb n l)(h:Mi w lo Lb n l k W){p:List Nat}(hr:RJ n ((l.drop (l.length-k)).map (·.1)) p)(j:Nat)(hj:j+1<p.length):
  ∃cnt,W.cell? ⟨QZ (l.drop (l.length-k)) Lb (p.take j),p[j]*4+3,none⟩=some (.slice (some ⟨QZ (l.drop (l.length-k)) Lb (p.take (j+1)),0,none⟩) cnt cnt)/\p[j+1]<cnt:=by
 obtain ⟨c1,⟨cur,g1,g2,g3⟩,hlt,_⟩:=h.at hm hr j (by omega);obtain ⟨c2,_,uM,hy⟩:=h.at hm hr (j+1) hj;rcases hy with ⟨e,_⟩ | ⟨y,hy,e1,e2,e3,e4,e5⟩
 ·have:(p.take (j+1)).length=0:=by rw [e];rfl
  rw [RW] at this;omega
 refine ⟨c2,?_,uM⟩;refine P0 g1 ?_;rw [g3 _ hlt 3 (by omega),Cg p j (by omega)];unfold RB;rw [e5];show some (Value.slice y.2.2.1 y.1.2.2 y.2.2.2)=_;rw [e2,e3,e4]
theorem Mi.put {Lb:Nat}(hm:Mw w lo Lb n l)(h:Mi w lo Lb n l k W)(hk:k<l.length){p:List Nat}{x:Rs}(hx:x=l[l.length-1-k])(hp:x.1.1=p)(m:Nat)(dq:m+1=p.length)(In:m<p.length):
  (∀c,c<4->∃v,W.cell? ⟨QZ (l.drop (l.length-k)) Lb (p.take m),p[m]*4+c,none⟩=some v/\W.frozen? ⟨QZ (l.drop (l.length-k)) Lb (p.take m),p[m]*4+c,none⟩=false)/\lo<=QZ (l.drop (l.length-k)) Lb (p.take m)/\(QZ (l.drop (l.length-k)) Lb (p.take m)=Lb\/∃y∈l,y.2.2.1=some ⟨QZ (l.drop (l.length-k)) Lb (p.take m),0,none⟩)/\
  Mi w lo Lb n l (k+1) (Rr W (QZ (l.drop (l.length-k)) Lb (p.take m)) p[m] (.int .i64 x.1.2.1.1) (.string ⟨x.1.2.1.2.1.toArray⟩) (.int .i64 x.1.2.1.2.2) (.slice x.2.2.1 x.1.2.2 x.2.2.2)):=by
 have hW:=hm.suf (l.length-(k+1));rw [LW l k hk,<-hx] at hW;obtain ⟨aD,am,_,hr,ET⟩:=hW;rw [hp] at hr ET am;obtain ⟨cnt,hg,hlt,hb⟩:=h.at hm hr m In;have uw:p.take m++[p[m]]=p:=by rw [Cg p m In,dq,QM]
 have iX:x∈l:=by rw [hx];exact Px _
 have al7:∀y∈l.drop (l.length-k),y.1.1≠p:=λy hy=>ET y.1 (PI.2 ⟨y,hy,rfl⟩);have hsp:(l.take (l.length-k)).Pairwise (λx y=>∀B,x.2.2.1=some ⟨B,0,none⟩->y.2.2.1≠some ⟨B,0,none⟩)/\(l.drop (l.length-k)).Pairwise (λx y=>∀B,x.2.2.1=some ⟨B,0,none⟩->y.2.2.1≠some ⟨B,0,none⟩)/\∀a∈l.take (l.length-k),∀b∈l.drop (l.length-k),∀B,a.2.2.1=some ⟨B,0,none⟩->b.2.2.1≠some ⟨B,0,none⟩:=by
  have:=hm.apart;rw [<-Ug (l.length-k) l,OP] at this;exact this
 have Io:x∈l.take (l.length-k):=by
  rw [hx];refine Le.2 ⟨l.length-1-k,by rw [RW];omega,?_⟩;rw [Gp]
 generalize hB:QZ (l.drop (l.length-k)) Lb (p.take m)=Bw at *
 have iR:lo<=Bw:=by
  rcases hb with ⟨_,e⟩ | ⟨y,hy,_,e,_⟩
  ·rw [e];exact PZ hm.low hm.root
  rcases hm.args y (Sn hy) with ⟨e2,_⟩ | ⟨B,e2,_,e3,_⟩
  ·rw [e2] at e;cases e
  rw [e2] at e;injection e with e;injection e with e;omega
 have fN:∀z∈l,∀B,z.2.2.1=some ⟨B,0,none⟩->(∀y∈l.drop (l.length-k),y.2.2.1=some ⟨Bw,0,none⟩->z.2.2.1≠some ⟨Bw,0,none⟩)->B≠Bw:=λz hz B fO am e=>by
  rcases hb with ⟨_,e2⟩ | ⟨y,hy,_,e2,_⟩
  ·rcases hm.args z hz with ⟨e3,_⟩ | ⟨B',e3,_,_,e4⟩
   ·rw [e3] at fO;cases fO
   rw [e3] at fO;injection fO with fO;injection fO with fO;have:=hm.root;omega
  exact am y hy e2 (by rw [fO,e])
 refine ⟨λc hc=> ?_,iR,?_,?_⟩
 ·obtain ⟨cur,g1,g2,g3⟩:=hg;have uM:p[m]*4+c<cur.size:=by omega
  exact ⟨cur[p[m]*4+c],P0 g1 (Rm uM),Pp g1⟩
 ·rcases hb with ⟨_,e⟩ | ⟨y,hy,_,e,_⟩
  ·exact .inl e
  exact .inr ⟨y,Sn hy,e⟩
 refine ⟨?_,?_,?_,?_⟩
 ·unfold Rr;exact (((h.below.setCell (p:=⟨Bw,p[m]*4,none⟩) iR _).setCell (p:=⟨Bw,p[m]*4+1,none⟩) iR _).setCell (p:=⟨Bw,p[m]*4+2,none⟩) iR _).setCell (p:=⟨Bw,p[m]*4+3,none⟩) iR _
 ·rw [LW l k hk,<-hx];rcases hb with ⟨e1,e2⟩ | ⟨y,hy,e1,e2,_⟩
  ·rw [e1] at hg uw;have kp:cnt=n:=by
    obtain ⟨c1,g1,g2,_⟩:=hg;obtain ⟨c2,g3,g4,_⟩:=h.root;rw [e2] at g1;rw [g1] at g3;injection g3 with g3;injection g3 with g3;subst g3;omega
   rw [kp] at hg hlt;rw [<-e2];exact hg.put (by rw [hp];exact uw.symm) hlt
  have bi3:Lb≠Bw:=λe=>by
   rcases hm.args y (Sn hy) with ⟨e3,_⟩ | ⟨B',e3,_,_,e4⟩
   ·rw [e3] at e2;cases e2
   rw [e3] at e2;injection e2 with e2;injection e2 with e2;have:=hm.root;omega
  refine (h.root.on (XJ _ _ _ _ _ _ _ _ bi3)).same λi e=> ?_;rw [hp,<-uw] at e;have h1:p.take m=[]:=(List.append_inj' e rfl).1;rw [h1] at e1;exact (hm.suf (l.length-k)).ne y.1 (PI.2 ⟨y,hy,rfl⟩) e1
 ·rw [LW l k hk,<-hx];intro z hz B fO;rcases Qa.1 hz with rfl | hz
  ·have oN:=fN z iX B fO λy hy e1 e2=>hsp.2.2 z Io y hy Bw e2 e1;refine QK.of_wild ((h.todo z Io B fO).on (XJ _ _ _ _ _ _ _ _ oN)) λi=> ?_;rw [OL,P7 (by intro e;have:=congrArg List.length e;simp at this)];refine Dw λy hy=> ?_;rw [hp];exact PD.fresh aD am (λy hy=>ET y hy) i y.1 (PI.2 ⟨y,hy,rfl⟩)
  by_cases e:z.1.1=p.take m
  ·rcases hb with ⟨e1,_⟩ | ⟨y,hy,e1,e2,e3,e4,e5⟩
   ·exact absurd (e.trans e1) ((hm.suf (l.length-k)).ne z.1 (PI.2 ⟨z,hz,rfl⟩))
   have h1:=LO (hm.suf (l.length-k)) hz;rw [e,e5] at h1;obtain rfl:=Qs h1;rw [fO] at e2;injection e2 with e2;injection e2 with e2;subst e2;have jt:=hg;rw [<-e4] at jt hlt;rw [e];exact jt.put (by rw [hp];exact uw.symm) hlt
  have oN:B≠Bw:=by
   rcases hb with ⟨e1,e2⟩ | ⟨y,hy,e1,e2,_⟩
   ·rcases hm.args z (Sn hz) with ⟨e3,_⟩ | ⟨B',e3,_,_,e4⟩
    ·rw [e3] at fO;cases fO
    rw [e3] at fO;injection fO with fO;injection fO with fO;have:=hm.root;omega
   intro e6;subst e6;have bi6:y≠z:=λq=>e (by rw [<-q];exact e1);have:=hsp.2.1;rw [List.pairwise_iff_forall_sublist] at this;rcases Le.1 hy with ⟨a,ha,rfl⟩;rcases Le.1 hz with ⟨b,hb2,rfl⟩;have Ip:=NS.1 hsp.2.1;rcases Nat.lt_trichotomy a b with dQ | dQ | dQ
   ·exact Ip a b ha hb2 dQ _ e2 fO
   ·subst dQ;exact bi6 rfl
   exact Ip b a hb2 ha dQ _ fO e2
  refine ((h.done z hz B fO).on (XJ _ _ _ _ _ _ _ _ oN)).same λi q=> ?_;rw [hp,<-uw] at q;exact e (List.append_inj' q rfl).1.symm
 intro z hz B fO;have bJ:z∈l.take (l.length-k):=by
  have e:l.length-(k+1)=l.length-k-1:=by omega
  rw [e] at hz;exact (List.take_sublist_take_left (by omega)).subset hz
 have oN:=fN z (Sa bJ) B fO λy hy e1 e2=>hsp.2.2 z bJ y hy Bw e2 e1;exact (h.todo z bJ B fO).on (XJ _ _ _ _ _ _ _ _ oN)
end
section
variable {w:World}{S:Nat->Prop}{f:Nat}
theorem Pv.ints {v:Value}{l:List Nat}(h:Pv w S v l):Rl w S v (l.map λ(n:Nat)=>(n:Int)):=Pd.map (λ(n:Nat)=>(n:Int)) (λ_ _ _ h=>h) h
theorem FQ (v u:Value)(l:List Nat)(hS:∀b,S b->b<w.heap.size)(h:Pv w S v l)(h':Pv w S u l)(hb:l.length<140737488355328):Calls Tryz.prog 18 #[v,u] w λr w'=>r= .returned (.bool true)/\Below w.heap.size w w':=by
 refine Pe (LP v u _ _ w S hS h.ints h'.ints (by simpa using hb)) ?_;rintro r w' ⟨rfl,hb⟩;exact ⟨by simp,hb⟩
def Rn:(f:Nat)->Tr f->Prop
 | 0,_=>True
 | f+1,t=>t.1.2.2.length<140737488355328/\(∀c∈t.2.1,Rn f c.2)/\∀e∈t.2.2,Rn f e
def TF (f:Nat)(t:Tr f):Prop:=∀(w:World) (S:Nat->Prop) (x y:Value),(∀b,S b->b<w.heap.size)->PL w S f x t->PL w S f y t->Calls Tryz.prog 10 #[x,y] w λr w'=>r= .returned (.bool true)/\Below w.heap.size w w'
def SV (w:World)(S:Nat->Prop)(f:Nat)(g o:Nat)(e:Tr f):Prop:=S g/\∃v0 v1 v2 v3 v4,w.cell? ⟨g,o,none⟩=some v0/\w.cell? ⟨g,o+1,none⟩=some v1/\w.cell? ⟨g,o+2,none⟩=some v2/\w.cell? ⟨g,o+3,none⟩=some v3/\w.cell? ⟨g,o+4,none⟩=some v4/\PL w S f (.agg #[v0,v1,v2,v3,v4]) e
theorem SV.on {w':World}{g o:Nat}{e:Tr f}(h:SV w S f g o e)(hb:OZ S w w'):SV w' S f g o e:=by
 obtain ⟨k0,v0,v1,v2,v3,v4,c0,c1,c2,c3,c4,ht⟩:=h;exact ⟨k0,v0,v1,v2,v3,v4,(hb.cell (p:=⟨g,o,none⟩) k0).trans c0,(hb.cell (p:=⟨g,o+1,none⟩) k0).trans c1,(hb.cell (p:=⟨g,o+2,none⟩) k0).trans c2,(hb.cell (p:=⟨g,o+3,none⟩) k0).trans c3,(hb.cell (p:=⟨g,o+4,none⟩) k0).trans c4,PL.below hb (λ_ h=>h) f _ _ ht⟩
theorem tk0 (t:Tr (f+1))(fY:t.2.1.length<=200/\t.2.2.length<=1)(bo:t.1.2.2.length<140737488355328)(hC:∀c,(c∈t.2.1.map (·.2)\/c∈t.2.2)->TF f c):TF (f+1) t:=by
 intro w S x y hS hx hy;obtain ⟨pa,pc,ca,cc,ea,ec,rfl,hN,eP,fz⟩:=hx;obtain ⟨dH,dI,fG,fq,fH,eB,rfl,C2,AC,AD⟩:=hy;obtain ⟨_,_,ce,aK⟩:=Pd.open eP;injection ce with ce ko ch;subst ce ch;obtain ⟨_,_,cJ,ay⟩:=Pd.open fz;injection cJ with cJ iU d9;subst cJ d9;obtain ⟨_,_,lT,bW⟩:=Pd.open AC;injection lT with lT hx3 uZ;subst lT uZ;obtain ⟨_,_,Fc,tf⟩:=Pd.open AD;injection Fc with Fc vZ cb6;subst Fc cb6;clear ko iU hx3 vZ;have dl:Hid (∀i (h:i<t.2.1.length),TF f t.2.1[i].2):=λi h=>hC _ (.inl (PI.2 ⟨_,Px h,rfl⟩));have bx:Hid (∀i (h:i<t.2.2.length),TF f t.2.2[i]):=λi h=>hC _ (.inr (Px h));obtain ⟨bH,hs2⟩:=fY;generalize t.1.1=t0 at *
 generalize t.1.2.1=t1 at *
 generalize t.1.2.2=path at *
 clear eP fz AC AD hC;generalize t.2.1=l1 at *
 generalize t.2.2=l2 at *
 have ep:Hid (l1≠[]->(∃g o,ca=some ⟨g,o,none⟩/\l1.length<=cc/\∀j (h:j<l1.length),RK w S f g (o+j*7) l1[j])/\∃g o,fG=some ⟨g,o,none⟩/\l1.length<=fq/\∀j (h:j<l1.length),RK w S f g (o+j*7) l1[j]):=λh=>⟨aK h,bW h⟩;have ei:Hid (l2≠[]->(∃g o,ea=some ⟨g,o,none⟩/\l2.length<=ec/\∀j (h:j<l2.length),SV w S f g (o+j*5) l2[j])/\∃g o,fH=some ⟨g,o,none⟩/\l2.length<=eB/\∀j (h:j<l2.length),SV w S f g (o+j*5) l2[j]):=λh=>⟨ay h,tf h⟩;have HS:=P4 hS;have hW:∃W,W=(w.alloc (Obj.cells #[.int .i64 t0,.int .i64 t1,.slice pa path.length pc,.slice ca l1.length cc,.slice ea l2.length ec] 30)).alloc (Obj.cells #[.int .i64 t0,.int .i64 t1,.slice dH path.length dI,.slice fG l1.length fq,.slice fH l2.length eB] 30)/\Below w.heap.size w W/\W.heap.size=w.heap.size+2/\W.heap[w.heap.size]? =some (.cells #[.int .i64 t0,.int .i64 t1,.slice pa path.length pc,.slice ca l1.length cc,.slice ea l2.length ec] 30 (0,0))/\W.heap[w.heap.size+1]? =some (.cells #[.int .i64 t0,.int .i64 t1,.slice dH path.length dI,.slice fG l1.length fq,.slice fH l2.length eB] 30 (0,0)):=by
  refine ⟨_,rfl,((Pb _ _).alloc (P6 _) _).alloc (by simp) _,by simp,?_,?_⟩
  ·rw [Qq _ _ _ (by simp)];exact PF w _
  have:=PF (w.alloc (Obj.cells #[.int .i64 t0,.int .i64 t1,.slice pa path.length pc,.slice ca l1.length cc,.slice ea l2.length ec] 30)) (Obj.cells #[.int .i64 t0,.int .i64 t1,.slice dH path.length dI,.slice fG l1.length fq,.slice fH l2.length eB] 30);simpa using this
 obtain ⟨W,hW,an,aO,hA,hB⟩:=hW;have CI:=FQ (w:=W) (S:=S) _ _ path (λb hb=>by have:=hS b hb;omega) (hN.on (OZ.of an hS)) (C2.on (OZ.of an hS)) bo;generalize path.length=pl at *
 have HW:=S6 an aO hA hB;have u':Hid (∀V,Below W.heap.size W V->(V.cell? ⟨w.heap.size,0,none⟩=some (.int .i64 t0)/\V.cell? ⟨w.heap.size,1,none⟩=some (.int .i64 t1)/\V.cell? ⟨w.heap.size,3,none⟩=some (.slice ca l1.length cc)/\V.cell? ⟨w.heap.size,4,none⟩=some (.slice ea l2.length ec))/\V.cell? ⟨w.heap.size+1,0,none⟩=some (.int .i64 t0)/\V.cell? ⟨w.heap.size+1,1,none⟩=some (.int .i64 t1)/\V.cell? ⟨w.heap.size+1,3,none⟩=some (.slice fG l1.length fq)/\V.cell? ⟨w.heap.size+1,4,none⟩=some (.slice fH l2.length eB)):=λV hV=>by
  have e1:=(hV.block w.heap.size (by omega)).trans hA;have e2:=(hV.block (w.heap.size+1) (by omega)).trans hB;exact ⟨⟨P0 e1 rfl,P0 e1 rfl,P0 e1 rfl,P0 e1 rfl⟩,P0 e2 rfl,P0 e2 rfl,P0 e2 rfl,P0 e2 rfl⟩
 have a2:=P0 (i:=2) hA rfl;have b2:=P0 (i:=2) hB rfl;clear aK ay bW tf hS an aO hA hB hN C2;go_enter Tryz.func10,Tryz.ntmps10
 go_upto_region 1 with fail
 rw [<-hW];clear hW
 go_upto_region 2 with (first | (go_at_call 18;(with_reducible refine Pe CI ?_);rintro e' w2 ⟨rfl,hb2⟩))
 obtain ⟨⟨p0,p1,p3,p4⟩,q0,q1,q3,q4⟩:=u'.out w2 hb2;have aS:=P4 hb2;clear hb2 a2 b2 CI;go_wp2;clear p0 p1 p3 p4 q0 q1 q3 q4
 go_loopw [6] (λiv wr=>∃i:Nat,i<=l1.length/\iv= .int .i64 i/\Hid (Below W.heap.size W wr)) (λiv _=>l1.length-(intOf iv).toNat)
 case atStart=>exact ⟨0,by omega,by go_num,aS.out⟩
 obtain ⟨i,hi,rfl,HT⟩:=hrel;have aV:=P4 (HW.1.trans (HT.mono (by have:=HW.2.1;omega)));obtain ⟨⟨p0,p1,p3,p4⟩,q0,q1,q3,q4⟩:=u'.out wr HT.out;by_cases ag:i<l1.length
 ·obtain ⟨⟨g,o,rfl,hc,hr⟩,g2,o2,rfl,hc2,iP⟩:=ep.out (λe=>by rw [e] at ag;simp at ag);have hk:=OZ.of aV.out HS.out;have vd:=(hr i ag).on hk;have vf:=(iP i ag).on hk;obtain ⟨s0,r0,r1,fL,v0,v1,v2,v3,v4,r2,r3,r4,r5,r6,ht⟩:=vd;obtain ⟨a,b,pa',pl',pc',ca',cl',cc',ea',el',ec',rfl,rfl,rfl,rfl,rfl⟩:=ht.vals;obtain ⟨Ff,m0,m1,_,v0,v1,v2,v3,v4,m2,m3,m4,m5,m6,iC⟩:=vf;obtain ⟨a',b',lU,lV,lW,lX,lY,lZ,m9,mf,mg,rfl,rfl,rfl,rfl,rfl⟩:=iC.vals;have jt:g2<wr.heap.size:=by have:=HS.out _ Ff;have:=aV.size;omega
  have aD:∃W1,W1=wr.alloc (Obj.cells #[.string ⟨l1[i].1.1.toArray⟩,.int .i64 l1[i].1.2,.int .i64 a,.int .i64 b,.slice pa' pl' pc',.slice ca' cl' cc',.slice ea' el' ec'] 53)/\Below wr.heap.size wr W1/\W1.heap.size=wr.heap.size+1/\W1.heap[wr.heap.size]? =some (.cells #[.string ⟨l1[i].1.1.toArray⟩,.int .i64 l1[i].1.2,.int .i64 a,.int .i64 b,.slice pa' pl' pc',.slice ca' cl' cc',.slice ea' el' ec'] 53 (0,0)):=⟨_,rfl,(Pb _ _).alloc (P6 _) _,by simp,Qn wr _⟩;obtain ⟨W1,aD,hb1,bH,cR⟩:=aD;have eM:∃W2,W2=W1.alloc (Obj.cells #[.string ⟨l1[i].1.1.toArray⟩,.int .i64 l1[i].1.2,.int .i64 a',.int .i64 b',.slice lU lV lW,.slice lX lY lZ,.slice m9 mf mg] 53)/\Below W1.heap.size W1 W2/\W2.heap.size=wr.heap.size+2/\W2.heap[wr.heap.size+1]? =some (.cells #[.string ⟨l1[i].1.1.toArray⟩,.int .i64 l1[i].1.2,.int .i64 a',.int .i64 b',.slice lU lV lW,.slice lX lY lZ,.slice m9 mf mg] 53 (0,0)):=⟨_,rfl,(Pb _ _).alloc (P6 _) _,by simp [bH],by have:=Qn W1 (Obj.cells #[.string ⟨l1[i].1.1.toArray⟩,.int .i64 l1[i].1.2,.int .i64 a',.int .i64 b',.slice lU lV lW,.slice lX lY lZ,.slice m9 mf mg] 53);rwa [bH] at this⟩;obtain ⟨W2,eM,hb2,hs2,j8⟩:=eM;have kJ:=(hb2.block _ (by omega)).trans cR;have rB:Below wr.heap.size wr W2:=hb1.trans (hb2.mono (by omega));have hk2:OZ S w W2:=hk.trans (OZ.of rB λy hy=>by have:=HS.out y hy;have:=aV.size;omega);have Fg:OZ S wr W2:=OZ.of rB λy hy=>by have:=HS.out y hy;have:=aV.size;omega
  have CN:=dl.out i ag W2 S _ _ (λy hy=>by have:=HS.out y hy;have:=aV.size;omega) (PL.below Fg (λ_ h=>h) f _ _ ht) (PL.below Fg (λ_ h=>h) f _ _ iC);have n0:=(hb1.cell (p:=⟨w.heap.size+1,3,none⟩) (by have:=HW.2.1;have:=HT.size;show w.heap.size+1<_;omega)).trans q3;have m0:=(hb1.cell (p:=⟨g2,o2+i*7,none⟩) jt).trans m0;have m1:=(hb1.cell (p:=⟨g2,o2+i*7+1,none⟩) jt).trans m1;have m2:=(hb1.cell (p:=⟨g2,o2+i*7+2,none⟩) jt).trans m2;have m3:=(hb1.cell (p:=⟨g2,o2+i*7+3,none⟩) jt).trans m3;have m4:=(hb1.cell (p:=⟨g2,o2+i*7+4,none⟩) jt).trans m4;have m5:=(hb1.cell (p:=⟨g2,o2+i*7+5,none⟩) jt).trans m5;have m6:=(hb1.cell (p:=⟨g2,o2+i*7+6,none⟩) jt).trans m6;have x2:=P0 (i:=2) kJ rfl;have x3:=P0 (i:=3) kJ rfl;have x4:=P0 (i:=4) kJ rfl;have x5:=P0 (i:=5) kJ rfl;have x6:=P0 (i:=6) kJ rfl;have y2:=P0 (i:=2) j8 rfl;have y3:=P0 (i:=3) j8 rfl;have y4:=P0 (i:=4) j8 rfl;have y5:=P0 (i:=5) j8 rfl;have y6:=P0 (i:=6) j8 rfl;have HN:Hid (∀V,Below W2.heap.size W2 V->(V.cell? ⟨wr.heap.size,0,none⟩=some (.string ⟨l1[i].1.1.toArray⟩)/\V.cell? ⟨wr.heap.size,1,none⟩=some (.int .i64 l1[i].1.2))/\V.cell? ⟨wr.heap.size+1,0,none⟩=some (.string ⟨l1[i].1.1.toArray⟩)/\V.cell? ⟨wr.heap.size+1,1,none⟩=some (.int .i64 l1[i].1.2)):=λV hV=>by
   have e1:=(hV.block wr.heap.size (by omega)).trans kJ;have e2:=(hV.block (wr.heap.size+1) (by omega)).trans j8;exact ⟨⟨P0 e1 rfl,P0 e1 rfl⟩,P0 e2 rfl,P0 e2 rfl⟩
  have dm:=P4 (HT.trans (rB.mono HT.size));have i1:(0:Int)<=(i:Int):=by omega
  have i2:(i:Int)<(l1.length:Int):=by omega
  have Dn:=P4 bH;clear hk hk2 Fg hr iP ht iC hb1 hb2 hs2 cR j8 kJ rB fL jt q0 q1 p0 p1 p4 q4;generalize l1[i].1.1=c0 at *
  generalize l1[i].1.2=c1 at *
  go_upto_region 8 with fail
  rw [<-aD];clear aD r0 r1 r2 r3 r4 r5 r6 p3 q3
  go_upto_region 9 with fail
  rw [<-eM];clear eM m0 m1 m2 m3 m4 m5 m6 n0
  go_upto_region 10 with (first | (go_at_call 10;(with_reducible refine Pe CN ?_);rintro e' w3 ⟨rfl,hb3⟩))
  obtain ⟨⟨z0,z1⟩,z2,z3⟩:=HN.out w3 hb3;clear x2 x3 x4 x5 x6 y2 y3 y4 y5 y6;go_wp2;exact ⟨⟨i+1,ag,by go_num,dm.trans (hb3.mono dm.size)⟩,by simp [intOf];omega⟩
 obtain rfl:i=l1.length:=by omega
 clear ep dl hi ag;generalize l1.length=n1 at *
 have jG:=P4 HT;go_wp2;clear p0 p1 p3 p4 q0 q1 q3 q4 HT aV
 go_loopw [10] (λiv wr=>∃i:Nat,i<=l2.length/\iv= .int .i64 i/\Hid (Below W.heap.size W wr)) (λiv _=>l2.length-(intOf iv).toNat)
 case atStart=>exact ⟨0,by omega,by go_num,jG.out⟩
 obtain ⟨i,hi,rfl,HT⟩:=hrel;have aV:=P4 (HW.1.trans (HT.mono (by have:=HW.2.1;omega)));obtain ⟨⟨p0,p1,p3,p4⟩,q0,q1,q3,q4⟩:=u'.out wr HT.out;clear p0 p1 p3 q0 q1 q3;by_cases ag:i<l2.length
 ·obtain ⟨⟨g,o,rfl,hc,hr⟩,g2,o2,rfl,hc2,iP⟩:=ei.out (λe=>by rw [e] at ag;simp at ag);have hk:=OZ.of aV.out HS.out;have vd:=(hr i ag).on hk;have vf:=(iP i ag).on hk;obtain ⟨s0,v0,v1,v2,v3,v4,r0,r1,r2,r3,r4,ht⟩:=vd;obtain ⟨a,b,pa',pl',pc',ca',cl',cc',ea',el',ec',rfl,rfl,rfl,rfl,rfl⟩:=ht.vals;obtain ⟨Ff,v0,v1,v2,v3,v4,m0,m1,m2,m3,m4,iC⟩:=vf;obtain ⟨a',b',lU,lV,lW,lX,lY,lZ,m9,mf,mg,rfl,rfl,rfl,rfl,rfl⟩:=iC.vals;have jC:OZ S wr wr.drew:=OZ.of (B:=wr.heap.size) (Pb _ _).drew (λy hy=>by have:=HS.out y hy;have:=aV.size;omega);have CN:=bx.out i ag wr.drew S _ _ (λy hy=>by have:=HS.out y hy;have:=aV.size;simp;omega) (PL.below jC (λ_ h=>h) f _ _ ht) (PL.below jC (λ_ h=>h) f _ _ iC);have fU:Hid (∀V,Below wr.heap.size wr V->(V.cell? ⟨w.heap.size,4,none⟩=some (.slice (some ⟨g,o,none⟩) l2.length ec)/\V.cell? ⟨w.heap.size+1,4,none⟩=some (.slice (some ⟨g2,o2,none⟩) l2.length eB))/\(V.cell? ⟨g,o+i*5,none⟩=some (.int .i64 a)/\V.cell? ⟨g,o+i*5+1,none⟩=some (.int .i64 b)/\V.cell? ⟨g,o+i*5+2,none⟩=some (.slice pa' pl' pc')/\V.cell? ⟨g,o+i*5+3,none⟩=some (.slice ca' cl' cc')/\V.cell? ⟨g,o+i*5+4,none⟩=some (.slice ea' el' ec'))/\V.cell? ⟨g2,o2+i*5,none⟩=some (.int .i64 a')/\V.cell? ⟨g2,o2+i*5+1,none⟩=some (.int .i64 b')/\V.cell? ⟨g2,o2+i*5+2,none⟩=some (.slice lU lV lW)/\V.cell? ⟨g2,o2+i*5+3,none⟩=some (.slice lX lY lZ)/\V.cell? ⟨g2,o2+i*5+4,none⟩=some (.slice m9 mf mg)):=λV hV=>by
   have hg:g<wr.heap.size:=by have:=HS.out _ s0;have:=aV.size;omega
   have jt:g2<wr.heap.size:=by have:=HS.out _ Ff;have:=aV.size;omega
   have hz:w.heap.size+1<wr.heap.size:=by have:=HW.2.1;have:=HT.size;omega
   exact ⟨⟨(hV.cell (p:=⟨w.heap.size,4,none⟩) (by show w.heap.size<_;omega)).trans p4,(hV.cell (p:=⟨w.heap.size+1,4,none⟩) hz).trans q4⟩,⟨(hV.cell (p:=⟨g,o+i*5,none⟩) hg).trans r0,(hV.cell (p:=⟨g,o+i*5+1,none⟩) hg).trans r1,(hV.cell (p:=⟨g,o+i*5+2,none⟩) hg).trans r2,(hV.cell (p:=⟨g,o+i*5+3,none⟩) hg).trans r3,(hV.cell (p:=⟨g,o+i*5+4,none⟩) hg).trans r4⟩,(hV.cell (p:=⟨g2,o2+i*5,none⟩) jt).trans m0,(hV.cell (p:=⟨g2,o2+i*5+1,none⟩) jt).trans m1,(hV.cell (p:=⟨g2,o2+i*5+2,none⟩) jt).trans m2,(hV.cell (p:=⟨g2,o2+i*5+3,none⟩) jt).trans m3,(hV.cell (p:=⟨g2,o2+i*5+4,none⟩) jt).trans m4⟩
  have i1:(0:Int)<=(i:Int):=by omega
  have i2:(i:Int)<(l2.length:Int):=by omega
  clear hk jC hr iP ht iC r0 r1 r2 r3 r4 m0 m1 m2 m3 m4 q4
  go_upto_region 15 with fail
  have ie:=fU.out wr.drew (Pb _ _).drew;clear p4
  go_region_held3 (λV=>(V.cell? ⟨w.heap.size,4,none⟩=some (.slice (some ⟨g,o,none⟩) l2.length ec)/\V.cell? ⟨w.heap.size+1,4,none⟩=some (.slice (some ⟨g2,o2,none⟩) l2.length eB))/\(V.cell? ⟨g,o+i*5,none⟩=some (.int .i64 a)/\V.cell? ⟨g,o+i*5+1,none⟩=some (.int .i64 b)/\V.cell? ⟨g,o+i*5+2,none⟩=some (.slice pa' pl' pc')/\V.cell? ⟨g,o+i*5+3,none⟩=some (.slice ca' cl' cc')/\V.cell? ⟨g,o+i*5+4,none⟩=some (.slice ea' el' ec'))/\V.cell? ⟨g2,o2+i*5,none⟩=some (.int .i64 a')/\V.cell? ⟨g2,o2+i*5+1,none⟩=some (.int .i64 b')/\V.cell? ⟨g2,o2+i*5+2,none⟩=some (.slice lU lV lW)/\V.cell? ⟨g2,o2+i*5+3,none⟩=some (.slice lX lY lZ)/\V.cell? ⟨g2,o2+i*5+4,none⟩=some (.slice m9 mf mg))
   (first | (with_reducible exact ie) | (with_reducible exact mw))
   (first
   | (go_at_call 10;(with_reducible refine Pe CN ?_);rintro e' w3 ⟨rfl,hb3⟩;have mw:=fU.out w3 ⟨hb3.os,hb3.tape,hb3.output,hb3.size,hb3.block⟩))
  have HB3:Hid (Below wr.heap.size wr w3):=⟨hb3.os,hb3.tape,hb3.output,hb3.size,hb3.block⟩;clear hb3 ie mw CN fU;go_wp2;exact ⟨⟨i+1,ag,by go_num,HT.trans (HB3.mono HT.size)⟩,by simp [intOf];omega⟩
 obtain rfl:i=l2.length:=by omega
 go_wp2;refine Qv (v:= .bool true) (by simp [results,Tryz.results10,go_sem]) rfl ?_;exact ⟨rfl,aV.out⟩
theorem yV:∀(f:Nat) (t:Tr f),Sm f t->Rn f t->TF f t
 | 0,t,_,_=>by
  intro w S x y hS hx hy;have h1:PL w S 1 x (Qz 1):=by
   have:x=_:=hx;rw [this];exact Y3 w S 1
  have h2:PL w S 1 y (Qz 1):=by
   have:y=_:=hy;rw [this];exact Y3 w S 1
  exact tk0 (f:=0) (Qz 1) ⟨by simp [Qz],by simp [Qz]⟩ (by simp [Qz]) (λc h=>by simp [Qz] at h) w S x y hS h1 h2
 | f+1,t,hs,ht=>tk0 t ⟨hs.1,hs.2.1⟩ ht.1 λc hc=>by
  rcases hc with hc | hc
  ·obtain ⟨d,hd,rfl⟩:=PI.1 hc;exact yV f _ (hs.2.2.1 d hd) (ht.2.1 d hd)
  exact yV f _ (hs.2.2.2 c hc) (ht.2.2 c hc)
theorem V3 (D:Nat)(b:Bool)(l:List Nat)(ps:List Pt)(a1 a2 a3 a4:Option Addr)(c1 c2 c3 c4:Nat)(hS:∀y,S y->y<w.heap.size)(hl:l.length<140737488355328)(hps:ps.length<140737488355328)(hD:∀p∈ps,p.1<D)(h1:Pv w S (.slice a1 l.length c1) l)(h2:Pv w S (.slice a2 l.length c2) l)(h3:Pl w S (.slice a3 ps.length c3) ps)(h4:Pl w S (.slice a4 ps.length c4) ps):
  Calls Tryz.prog 11 #[.agg #[.bool b,.slice a1 l.length c1,.slice a3 ps.length c3],.agg #[.bool b,.slice a2 l.length c2,.slice a4 ps.length c4]] w λr w'=>r= .returned (.bool true)/\Below w.heap.size w w':=by
 have hW:∃W,W=(w.alloc (Obj.cells #[.bool b,.slice a1 l.length c1,.slice a3 ps.length c3] 33)).alloc (Obj.cells #[.bool b,.slice a2 l.length c2,.slice a4 ps.length c4] 33)/\Below w.heap.size w W/\W.heap.size=w.heap.size+2/\W.heap[w.heap.size]? =some (.cells #[.bool b,.slice a1 l.length c1,.slice a3 ps.length c3] 33 (0,0))/\W.heap[w.heap.size+1]? =some (.cells #[.bool b,.slice a2 l.length c2,.slice a4 ps.length c4] 33 (0,0)):=by
  refine ⟨_,rfl,((Pb _ _).alloc (P6 _) _).alloc (by simp) _,by simp,?_,?_⟩
  ·rw [Qq _ _ _ (by simp)];exact PF w _
  have:=PF (w.alloc (Obj.cells #[.bool b,.slice a1 l.length c1,.slice a3 ps.length c3] 33)) (Obj.cells #[.bool b,.slice a2 l.length c2,.slice a4 ps.length c4] 33);simpa using this
 obtain ⟨W,hW,an,aO,hA,hB⟩:=hW;have CI:=FQ (w:=W) (S:=S) _ _ l (λy hy=>by have:=hS y hy;omega) (h1.on (OZ.of an hS)) (h2.on (OZ.of an hS)) hl;have HP:Hid (∀V,Below W.heap.size W V->(Calls Tryz.prog 12 #[.slice a3 ps.length c3,.slice a4 ps.length c4] V λr w'=>r= .returned (.bool true)/\Below V.heap.size V w')/\Below w.heap.size w V/\w.heap.size+1<V.heap.size/\∀V',Below W.heap.size W V'->(V'.cell? ⟨w.heap.size,0,none⟩=some (.bool b)/\V'.cell? ⟨w.heap.size,2,none⟩=some (.slice a3 ps.length c3))/\V'.cell? ⟨w.heap.size+1,0,none⟩=some (.bool b)/\V'.cell? ⟨w.heap.size+1,2,none⟩=some (.slice a4 ps.length c4)):=λV hV=>by
  have eQ:=an.trans (hV.mono (by omega));have hz:=hV.size;refine ⟨Jz D _ _ ps V S hD (λy hy=>by have:=hS y hy;omega) hps (h3.on (OZ.of eQ hS)) (h4.on (OZ.of eQ hS)),eQ,by omega,λV' II=> ?_⟩;have e1:=(II.block w.heap.size (by omega)).trans hA;have e2:=(II.block (w.heap.size+1) (by omega)).trans hB;exact ⟨⟨P0 e1 rfl,P0 e1 rfl⟩,P0 e2 rfl,P0 e2 rfl⟩
 have x1:=P0 (i:=1) hA rfl;have y1:=P0 (i:=1) hB rfl;clear hA hB an aO h1 h2 h3 h4 hS hD;generalize l.length=n at *
 generalize ps.length=m at *
 go_enter Tryz.func11,Tryz.ntmps11
 go_upto_region 1 with fail
 rw [<-hW];clear hW
 go_upto_region 2 with (first | (go_at_call 18;(with_reducible refine Pe CI ?_);rintro e' w2 ⟨rfl,hb2⟩))
 obtain ⟨CP,hbv,bp2,IJ⟩:=HP.out w2 hb2;obtain ⟨⟨p0,p2⟩,q0,q2⟩:=IJ w2 hb2;have aS:=Qh hb2 hbv;clear hb2 hbv bp2 IJ x1 y1 CI p0 q0
 go_upto_region 3 with (first | (go_at_call 12;(with_reducible refine Pe CP ?_);rintro e' w3 ⟨rfl,hb3⟩))
 obtain ⟨⟨p0,p2⟩,q0,q2⟩:=(HP.out w2 aS.1).2.2.2 w3 (aS.1.trans (hb3.mono aS.1.size));have HB3:=P4 (aS.2.trans (hb3.mono aS.2.size));clear hb3 CP p2 q2 HP aS;go_wp2;refine Qv (v:= .bool true) (by simp [results,Tryz.results11,go_sem]) rfl ?_;exact ⟨rfl,HB3.out⟩
end
