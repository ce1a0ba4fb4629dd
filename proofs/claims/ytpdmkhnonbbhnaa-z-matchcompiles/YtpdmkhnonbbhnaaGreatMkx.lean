import Derived.Test.YtpdmkhnonbbhnaaGreatMix
import Derived.Test.YtpdmkhnonbbhnaaGreatMhx
import Derived.Test.YtpdmkhnonbbhnaaGreatMax
namespace Go.Proofs.YtpdmkhnonbbhnaaGreat
open Go.RowKit Go.Maps
set_option maxHeartbeats 1000000
section
variable {S:Nat->Prop}{w w':World}{B g fc b m o cc:Nat}{k:Kn}{fs:List Pu}{fa:Option Addr}{cols:List PM}{rows path:List Nat}{rv sv pv:Value}{af:List Sp}
def Fr (S:Nat->Prop)(B:Nat)(w:World)(x:Nat):Prop:=S x\/(B<=x/\x<w.heap.size)
theorem Fr.lt (hS:∀x,S x->x<B)(hB:B<=w.heap.size):∀x,Fr S B w x->x<w.heap.size:=λx h=>by
 rcases h with h | h
 ·exact PQ (hS x h) hB
 exact h.2
theorem Fr.up (h1:B<=w.heap.size)(h2:w.heap.size<=w'.heap.size):∀x,(Fr S B w x\/(w.heap.size<=x/\x<w'.heap.size))->Fr S B w' x:=λx h=>by
 rcases h with (h | h) | h
 ·exact .inl h
 ·exact .inr ⟨h.1,by omega⟩
 exact .inr ⟨by omega,h.2⟩
theorem Fr.keeps (hS:∀x,S x->x<B)(hB:B<=w.heap.size)(h:Below w.heap.size w w'):OZ (Fr S B w) w w':=λx hx=>h.block x (Fr.lt hS hB x hx)
theorem MN:∀(l:List PM) (o:Nat),(∀j (h:j<l.length),S g/\∃cb,w.cell? ⟨g,o+j*1,none⟩=some (.pointer (some ⟨cb,0,none⟩))/\QR w S cb l[j])->
  ∃L:List (Nat×PM),L.map (·.2)=l/\(∀j (h:j<L.length),S g/\w.cell? ⟨g,o+j*1,none⟩=some (.pointer (some ⟨L[j].1,0,none⟩)))/\∀s∈L,QR w S s.1 s.2
 | [],_,_=>⟨[],rfl,λj h=>by simp at h,by simp⟩
 | a::r,o,h=>by
  obtain ⟨L,h1,h2,h3⟩:=MN r (o+1) (λj hj=>by
   have:=h (j+1) (by simpa using hj);rw [show o+(j+1)*1=o+1+j*1 by omega] at this;exact this)
  obtain ⟨s0,cb,s1,s2⟩:=h 0 (by simp);refine ⟨(cb,a)::L,by rw [Re,h1],λj hj=> ?_,λs hs=> ?_⟩
  ·cases j with
   | zero=>exact ⟨s0,s1⟩
   | succ j=>
    rw [show o+(j+1)*1=o+1+j*1 by omega];exact h2 j (by simpa using hj)
  rcases Qa.1 hs with rfl | hs
  ·exact s2
  exact h3 s hs
def Q7 (x:Nat×PM):Value:= .pointer (some ⟨x.1,0,none⟩)
theorem Qw.list {v:Value}{l:List PM}(h:Qw w S v l):∃L:List (Nat×PM),L.map (·.2)=l/\Rt w S v (L.map Q7)/\∀s∈L,QR w S s.1 s.2:=by
 rcases h with ⟨rfl,h⟩ | ⟨g,o,cap,rfl,h0,hc,h⟩
 ·exact ⟨[],rfl,.inl ⟨rfl,h⟩,by simp⟩
 obtain ⟨L,h1,h2,h3⟩:=MN l o h;have hl:L.length=l.length:=by rw [<-h1,Qb]
 refine ⟨L,h1,.inr ⟨g,o,cap,by rw [Qb,hl],λe=>h0 (by rw [<-h1,List.map_eq_nil_iff.1 e];rfl),by rw [Qb,hl];exact hc,λj hj=> ?_⟩,h3⟩;rw [R7];exact h2 j (by simpa using hj)
theorem rc0 (g o cc:Nat)(cols fields:List PM)(fv:Value)(ax:Nat)(hS:∀b,S b->b<w.heap.size)(hc:Qw w S (.slice (some ⟨g,o,none⟩) cols.length cc) cols)(aM:cols.length<=cc)(hf:Qw w S fv fields)(hl:cols.length+fields.length<=100000)(ha:ax<cols.length):
  Calls Tryz.prog 76 #[.slice (some ⟨g,o,none⟩) cols.length cc,.int .i64 ax,fv] w λr w'=>Below w.heap.size w w'/\∃v,r= .returned v/\Qw w' (λx=>S x\/(w.heap.size<=x/\x<w'.heap.size)) v (cols.take ax++fields++cols.drop (ax+1)):=by
 obtain ⟨L,hL,hv,hp⟩:=hc.list;obtain ⟨M,hM,Hj,cc3⟩:=hf.list;obtain ⟨ma,mc,rfl⟩:=Hj.len;have lL:cols.length=(L.map Q7).length:=by rw [<-hL];simp
 have lM:fields.length=(M.map Q7).length:=by rw [<-hM];simp
 rw [lL] at hv aM ha hl⊢;rw [lM] at hl;refine (KP (L.map Q7) (M.map Q7) ax g o ma cc mc S w hS hv aM Hj (by intro u hu;obtain ⟨n,_,rfl⟩:=PI.1 hu;rfl) (by intro u hu;obtain ⟨n,_,rfl⟩:=PI.1 hu;rfl) hl ha).mono λr w' h=> ?_;obtain ⟨v,rfl,hown,hb⟩:=h;refine ⟨hb,v,rfl,?_⟩;have hN:(L.map Q7).take ax++M.map Q7++(L.map Q7).drop (ax+1)=(L.take ax++M++L.drop (ax+1)).flatMap λx=> [Q7 x]:=by
  rw [<-NU,<-J3,<-R6,<-R6];exact List.map_eq_flatMap
 have hn:ax+(M.map Q7).length+((L.map Q7).length-(ax+1))=(L.take ax++M++L.drop (ax+1)).length:=by
  simp only [QP,RW,Um,Qb] at ha⊢;omega
 rw [hN,hn] at hown;have au:=Zq hown (λ_ _=>rfl);have hC:cols.take ax++fields++cols.drop (ax+1)=(L.take ax++M++L.drop (ax+1)).map (·.2):=by
  rw [<-hL,<-hM,R6,R6,NU,J3]
 rw [hC];have hk:OZ S w w':=OZ.of hb hS;have hm:Pd 1 (λg o (x:Nat×PM)=>(S g\/(w.heap.size<=g/\g<w'.heap.size))/\∃cb,w'.cell? ⟨g,o,none⟩=some (.pointer (some ⟨cb,0,none⟩))/\QR w' (λx=>S x\/(w.heap.size<=x/\x<w'.heap.size)) cb x.2) v (L.take ax++M++L.drop (ax+1)):=by
  refine au.mono λg o x hx h=> ?_;obtain ⟨⟨_,e1,e2⟩,e3⟩:=h;refine ⟨.inr ⟨e1,e2⟩,x.1,e3 0 (by omega),?_⟩;have:QR w S x.1 x.2:=by
   rcases PE.1 hx with hx | hx
   ·rcases PE.1 hx with hx | hx
    ·exact hp x (Sa hx)
    exact cc3 x hx
   exact hp x (Sn hx)
  exact (this.on hk).up λ_ h=> .inl h
 exact Pd.map (Q':=λg o c=>(S g\/(w.heap.size<=g/\g<w'.heap.size))/\∃cb,w'.cell? ⟨g,o,none⟩=some (.pointer (some ⟨cb,0,none⟩))/\QR w' (λx=>S x\/(w.heap.size<=x/\x<w'.heap.size)) cb c) (λx:Nat×PM=>x.2) (λ_ _ _ h=>h) hm
structure Cx (k:Kn)(fs:List Pu)(fa:Option Addr)(fc b m f n:Nat)(cols:List PM)(rows:List Nat)(ax:Nat):Prop where
 hK:KnOk k fs
 hT:Tl k fs fa fc b m f
 fuel:5001<=n+f/\f<=5000/\n<=5000
 mapne:b≠m
 ha:ax<cols.length
 good:∀c∈cols,Good k (5001-f) c
 num:cols.length<=16+8*(5000-f)
 rise:rows.Pairwise (· < ·)
 low:∀r∈rows,r<200
structure Rd (k:Kn)(fs:List Pu)(fa:Option Addr)(fc b m:Nat)(cols:List PM)(rows:List Nat)(g o cc:Nat)(rv sv pv:Value)(af:List Sp)(path:List Nat)(S:Nat->Prop)(w:World):Prop where
 set:∀x,S x->x<w.heap.size/\x≠m
 map:PP w b k
 fams:PH w S (.slice fa fs.length fc) fs
 hcols:Qw w S (.slice (some ⟨g,o,none⟩) cols.length cc) cols
 cap:cols.length<=cc
 hrows:Pv w S rv rows
 hsp:Q3 w S sv af
 hpv:Pv w S pv path
theorem Rd.on (h:Rd k fs fa fc b m cols rows g o cc rv sv pv af path S w)(hk:OZ S w w')(hb:w'.heap[b]? =w.heap[b]?)(hs:w.heap.size<=w'.heap.size):Rd k fs fa fc b m cols rows g o cc rv sv pv af path S w':=
 ⟨λx hx=>⟨PQ (h.set x hx).1 hs,(h.set x hx).2⟩,h.map.on hb,h.fams.on hk,h.hcols.on hk,h.cap,h.hrows.on hk,h.hsp.on hk,h.hpv.on hk⟩
theorem rd0 {f n:Nat}{ax:Nat}{wr w4:World}(hc:Cx k fs fa fc b m f n cols rows ax)(hr:Rd k fs fa fc b m cols rows g o cc rv sv pv af path S wr)
  {n':Nat}(hn:n<=n'/\n'<=1010202) (hm:wr.heap[m]? =some (.cells #[.slice fa fs.length fc,.map (some b),.int .i64 n'] 76 (0,0))) (hb:Below wr.heap.size wr w4) {bF:List PM}{bO:List Nat}{Eh Ei:Value}(hC:Qw w4 (Fr S wr.heap.size w4) Eh bF) (hR:Pv w4 (Fr S wr.heap.size w4) Ei bO)
  (hg:∀c∈bF,Good k (5002-f) c) (dK:bF.length<=16+8*(5001-f)) (ig:bO.Sublist rows):
  Calls Tryz.prog 29 #[.pointer (some ⟨m,0,none⟩),Eh,Ei] w4 λr w'=>Kx m w4 w'/\w'.heap[m]? =some (.cells #[.slice fa fs.length fc,.map (some b),.int .i64 (Ps k fs f n' bF bO).2] 76 (0,0))/\((5000<=n'->(Ps k fs f n' bF bO).2=n'+1)/\(n'<5000->(Ps k fs f n' bF bO).2<=5001+201*f))/\
  ∃a b pa pl pc ca cl cc ea el ec,r= .returned (.agg #[.int .i64 a,.int .i64 b,.slice pa pl pc,.slice ca cl cc,.slice ea el ec])/\PL w' (λb=>w4.heap.size<=b/\b<w'.heap.size) f (.agg #[.int .i64 a,.int .i64 b,.slice pa pl pc,.slice ca cl cc,.slice ea el ec]) (Ps k fs f n' bF bO).1/\TN w' w4.heap.size w'.heap.size f (.agg #[.int .i64 a,.int .i64 b,.slice pa pl pc,.slice ca cl cc,.slice ea el ec]):=by
 have dq:=PV hm;have dS:=Mv.lt hr.map;have h4:=hb.size;have hf:=hc.fuel;have hlt:∀x,S x->x<wr.heap.size:=λx hx=>(hr.set x hx).1;refine (hc.hT n' bF bO Eh Ei (Fr S wr.heap.size w4) w4 ⟨by omega,hn.2,(hb.block m dq).trans hm,λx hx=>⟨Fr.lt hlt h4 x hx,?_⟩,hr.map.on (hb.block b dS),hc.mapne,(hr.fams.on (OZ.of hb hlt)).up λ_ h=> .inl h,hC,hR,hg,dK,hc.rise.sublist ig,λr hr=>hc.low r (ig.subset hr)⟩).mono λr w' h=> ?_
 ·rcases hx with hx | hx
  ·exact (hr.set x hx).2
  omega
 obtain ⟨e1,e2,e3,x,rfl,e4,e5⟩:=h;obtain ⟨a,b',pa,pl,pc,ca,cl,cc',ea,el,ec,rfl⟩:=e4.parts;exact ⟨e1,e2,e3,a,b',pa,pl,pc,ca,cl,cc',ea,el,ec,rfl,e4,e5⟩
end
section
theorem NJ {α β:Type}{step:α->Nat->β×Nat}(h:∀x n,n<=(step x n).2):∀(l:List α) (n:Nat),n<=(P9 step l n).2
 | [],_=>P6 _
 | a::r,n=>PZ (h a n) (NJ h r _)
theorem ZJ (k:Kn)(fs:List Pu):∀(f n:Nat) (cols:List PM) (rows:List Nat),n<=(Ps k fs f n cols rows).2
 | 0,n,_,_=>YC n
 | f+1,n,cols,rows=>by
  by_cases hn:5000<=n
  ·rw [Vq _ _ _ _ _ _ hn];exact YC n
  cases rows with
  | nil=>rw [VW _ _ _ _ _ (by omega)];exact YC n
  | cons r rows=>
   cases hi:cols.findIdx? (Rx r) with
   | none=>rw [V9 _ _ _ _ _ _ _ (by omega) hi];exact YC n
   | some ax=>
    have ha:ax<cols.length:=(SP.1 hi).1;rw [Vz k fs f n cols r rows ax ha (by omega) hi];have h1:n<=(P9 (PG k fs f cols (r::rows) ax (PK cols[ax].2.2 (r::rows)) (cols[ax].1++[cols[ax].2.1])) (Pg k (PK cols[ax].2.2 (r::rows))) (n+1)).2:=PZ (YC n) (NJ (λx n=>ZJ k fs f n _ _) _ _);unfold T9;dsimp only;split
    ·exact h1
    exact PZ h1 (ZJ k fs f _ _ _)
section
variable {k:Kn}{fs:List Pu}{fa:Option Addr}{fc b m f n:Nat}{cols:List PM}{rows:List Nat}{ax:Nat}{g o cc:Nat}{rv sv pv:Value}{S:Nat->Prop}{wr:World}
def P1 (S:Nat->Prop)(wr:World)(af:List Sp)(x:Cs)(a u:Value)(w:World):Prop:=Below wr.heap.size wr w/\Q3 w (Fr S wr.heap.size w) a (af.filter (Pk x))/\Q3 w (Fr S wr.heap.size w) u (af.filter λs=> !Pk x s)
def P2 (S:Nat->Prop)(wr:World)(af:List Sp)(x:Cs)(u v:Value)(fields:List PM)(w:World):Prop:=Below wr.heap.size wr w/\Q3 w (Fr S wr.heap.size w) u (af.filter λs=> !Pk x s)/\Qw w (Fr S wr.heap.size w) v fields
def P3 (S:Nat->Prop)(wr:World)(v u:Value)(bF:List PM)(bO:List Nat)(w:World):Prop:=Below wr.heap.size wr w/\Qw w (Fr S wr.heap.size w) v bF/\Pv w (Fr S wr.heap.size w) u bO
theorem r1 {af:List Sp}{path:List Nat}(hr:Rd k fs fa fc b m cols rows g o cc rv sv pv af path S wr)(x:Cs)(hs:af.length<=200):Calls Tryz.prog 72 #[sv,NQ x] wr λr w=>∃a u,r= .returned (.tuple #[a,u])/\P1 S wr af x a u w:=
 (qu0 sv af x (λy hy=>(hr.set y hy).1) hr.hsp hs).mono λ_ _ ⟨e1,a,u,e2,e3,e4⟩=>⟨a,u,e2,e1,e3,e4⟩
theorem r2 {w:World}{x:Cs}{a u:Value}(hc:Cx k fs fa fc b m f n cols rows ax)(hr:Rd k fs fa fc b m cols rows g o cc rv sv pv (PK (cols[ax]'hc.ha).2.2 rows) ((cols[ax]'hc.ha).1++[(cols[ax]'hc.ha).2.1]) S wr)(hx:x∈Pg k (PK (cols[ax]'hc.ha).2.2 rows))(h:P1 S wr (PK (cols[ax]'hc.ha).2.2 rows) x a u w):
  Calls Tryz.prog 73 #[.agg #[.slice fa fs.length fc,.map (some b)],a,.string ⟨x.1.toArray⟩,pv] w λr w'=>∃v,r= .returned v/\P2 S wr (PK (cols[ax]'hc.ha).2.2 rows) x u v (within k ((PK (cols[ax]'hc.ha).2.2 rows).filter (Pk x)) x.1 ((cols[ax]'hc.ha).1++[(cols[ax]'hc.ha).2.1])) w':=by
 have hlt:∀x,S x->x<wr.heap.size:=λx hx=>(hr.set x hx).1;have hg:=hc.good (cols[ax]'hc.ha) (Px hc.ha);have ou:=hg.right.sub hc.hK (a:=PK (cols[ax]'hc.ha).2.2 rows) TW;have lg:(PK (cols[ax]'hc.ha).2.2 rows).length<=200:=PZ (T8 _ _) hg.len;obtain ⟨e1,e2,e3⟩:=h;have hsz:=e1.size;have fL:x.1.length<140737488355328:=by
  obtain ⟨s,hs,rfl,_⟩:=U' hc.hK ou.together hx;obtain ⟨L,hL,_,hp⟩:=hr.hsp.list;rw [<-hL] at hs;obtain ⟨t,ht,rfl⟩:=PI.1 hs;have:=(hp t ht).open.2.2.2.2.1;unfold PA;split
  ·exact this
  simp
 obtain ⟨pa,pc,zJ⟩:=hr.hpv.len;subst zJ;refine (tq0 (S:=Fr S wr.heap.size w) fa fs.length fc a _ x.1 _ pa pc (Fr.lt hlt hsz) (hr.map.on (e1.block b (Mv.lt hr.map))) e2 ((hr.hpv.on (OZ.of e1 hlt)).up λ_ h=> .inl h) (PZ (T8 _ _) lg) fL (λs hs=>hg.rows s (Sq.1 (Sq.1 hs).1).1) (FO hc.hK ou.together hx) (by have:=WU hc.hK x.1;omega)).mono λr w' h=> ?_;obtain ⟨f1,v,rfl,f2⟩:=h;have hs2:=f1.size;exact ⟨v,rfl,e1.trans (f1.mono hsz),(e3.on (Fr.keeps hlt hsz f1)).up λy hy=>Fr.up hsz hs2 y (.inl hy),f2.up λy hy=>Fr.up hsz hs2 y hy⟩
theorem r3 {w:World}{x:Cs}{u v:Value}{fields:List PM}{af:List Sp}{path:List Nat}(hc:Cx k fs fa fc b m f n cols rows ax)(hr:Rd k fs fa fc b m cols rows g o cc rv sv pv af path S wr)(hl:fields.length<=100)(h:P2 S wr af x u v fields w):
  Calls Tryz.prog 76 #[.slice (some ⟨g,o,none⟩) cols.length cc,.int .i64 ax,v] w λr w'=>∃v,r= .returned v/\P2 S wr af x u v (cols.take ax++fields++cols.drop (ax+1)) w':=by
 have hlt:∀x,S x->x<wr.heap.size:=λx hx=>(hr.set x hx).1;obtain ⟨e1,e2,e3⟩:=h;have hsz:=e1.size;have dK:=hc.num;have Ej:=hc.fuel;refine (rc0 g o cc cols fields v ax (Fr.lt hlt hsz) ((hr.hcols.on (OZ.of e1 hlt)).up λ_ h=> .inl h) hr.cap e3 (by omega) hc.ha).mono λr w' h=> ?_;obtain ⟨f1,v,rfl,f2⟩:=h;have hs2:=f1.size;exact ⟨v,rfl,e1.trans (f1.mono hsz),(e2.on (Fr.keeps hlt hsz f1)).up λy hy=>Fr.up hsz hs2 y (.inl hy),f2.up λy hy=>Fr.up hsz hs2 y hy⟩
theorem r4 {w:World}{x:Cs}{u v:Value}{bF:List PM}(hc:Cx k fs fa fc b m f n cols rows ax){path:List Nat}(hr:Rd k fs fa fc b m cols rows g o cc rv sv pv (PK (cols[ax]'hc.ha).2.2 rows) path S wr)(h:P2 S wr (PK (cols[ax]'hc.ha).2.2 rows) x u v bF w):
  Calls Tryz.prog 77 #[rv,u] w λr w'=>∃y,r= .returned y/\P3 S wr v y bF (QE rows ((PK (cols[ax]'hc.ha).2.2 rows).filter λs=> !Pk x s)) w':=by
 have hlt:∀x,S x->x<wr.heap.size:=λx hx=>(hr.set x hx).1;have hg:=hc.good (cols[ax]'hc.ha) (Px hc.ha);have lg:(PK (cols[ax]'hc.ha).2.2 rows).length<=200:=PZ (T8 _ _) hg.len;obtain ⟨e1,e2,e3⟩:=h;have hsz:=e1.size;refine (nu0 rv u rows _ (Fr.lt hlt hsz) ((hr.hrows.on (OZ.of e1 hlt)).up λ_ h=> .inl h) e2 (Zz hc.rise 200 hc.low) (PZ (T8 _ _) lg) hc.rise (λs hs=> ?_) ?_).mono λr w' h=> ?_
 ·have:=(Sq.1 (Sq.1 hs).1).2;simpa using this
 ·exact (hg.rise.sublist ((TW.trans TW).map _)).imp λh=>ZC h
 obtain ⟨f1,y,rfl,f2⟩:=h;have hs2:=f1.size;exact ⟨y,rfl,e1.trans (f1.mono hsz),(e3.on (Fr.keeps hlt hsz f1)).up λy hy=>Fr.up hsz hs2 y (.inl hy),f2.up λy hy=>Fr.up hsz hs2 y hy⟩
theorem OB (rows:List Nat)(af:List Sp):(QE rows af).Sublist rows:=TW
theorem Vs (k:Kn)(af:List Sp)(con:Qg)(path:List Nat):(within k af con path).length<=(O' k con).2.2:=by
 unfold within QA;refine PZ (XH _ _) ?_;simp
end
end
def Qk {α β:Type}(step:α->Nat->Option (β×Nat)):List α->Nat->Option (List β×Nat)
 | [],n=>some ([],n)
 | a::r,n=>(step a n).bind λx=>(Qk step r x.2).map λy=>(x.1::y.1,y.2)
def QJ (k:Kn)(R:List Rw)(c:Nat)(x:Cs):List Rw:=Pw (TU k c x) c R
def RA (R:List Rw)(c:Nat):List Rw:=Pw (TH c) c R
def S2 (ak:List (List Nat))(c many:Nat):List (List Nat):=Qd ak c ((List.range many).map λi=>ak.getD c []++[i])
def Q4 (k:Kn)(fs:List Pu):(f:Nat)->Nat->List Rw->List (List Nat)->Option (Tr f×Nat)
 | 0,_,_,_=>none
 | f+1,n,R,ak=>if 5000<=n then none else match R with
  | []=>some (((1,0,[]),[],[]),n+1)
  | r::R'=>match r.2.findIdx? (λp=> !Pm p) with
   | none=>some (((2,r.1,[]),[],[]),n+1)
   | some c=>(Qk (λx m=>Q4 k fs f m (QJ k (r::R') c x) (S2 ak c (O' k x.1).2.2)) (Pg k (Pq c (r::R'))) (n+1)).bind λa=>
    if Ss k fs (Pg k (Pq c (r::R'))) then some (((3,0,ak.getD c []),(Pg k (Pq c (r::R'))).zip a.1,[]),a.2)
    else (Q4 k fs f a.2 (RA (r::R') c) (S2 ak c 0)).map λe=>(((3,0,ak.getD c []),(Pg k (Pq c (r::R'))).zip a.1,[e.1]),e.2)
def QT {α:Type}(x:α×Nat):Option (α×Nat):=if x.2<=5000 then some x else none
theorem ph0 {α β:Type}{sO:α->Nat->Option (β×Nat)}{sP:α->Nat->β×Nat}(mI:∀x m,m<=(sP x m).2):∀(l:List α) (n:Nat),n<=5000->(∀x∈l,∀m,n<=m->sO x m=QT (sP x m))->Qk sO l n=QT (P9 sP l n)
 | [],n,hn,_=>by
  unfold Qk P9 QT;rw [Pc hn]
 | a::r,n,hn,h=>by
  unfold Qk P9;rw [h a (by simp) n (P6 _)];by_cases ha:(sP a n).2<=5000
  ·have ih:=ph0 mI r (sP a n).2 ha λx hx m hm=>h x (by simp [hx]) m (PZ (mI a n) hm);rw [QT,Pc ha,Sw,ih];by_cases hb:(P9 sP r (sP a n).2).2<=5000
   ·rw [QT,QT,Pc hb,Pc hb]
    rfl
   rw [QT,QT,P7 hb,P7 hb]
   rfl
  have:=NJ mI r (sP a n).2;rw [QT,QT,if_neg ha,if_neg (by dsimp only;omega)]
  rfl
theorem Ks {k:Kn}{fs:List Pu}(hk:KnOk k fs){R:List Rw}{c:Nat}(ht:together k (Pq c R)=true){x:Cs}(hx:x∈Pg k (Pq c R)):∀r∈R,∀p,r.2[c]? =some p->Pm p=false->Pk x (r.1,p)=true->x.1≠[]->p.kids.length=(O' k x.1).2.2:=by
 intro r hr p hp hw hi am;have hs:((r.1,p):Sp)∈Pq c R:=by
  rw [TQ];exact SE.2 ⟨r,hr,Uo.2 ⟨rfl,hp,hw⟩⟩
 have h1:=(rx0 hk ht hx hs).1 hi;have h2:=(SF ht _ hs _ hs).2.1;by_cases h4:p.kind=4
 ·have:x=(p.name,0):=by rw [h1,PA,Pc h4]
  obtain ⟨d,_,e1,e2⟩:=Tg h2 h4;rw [this];show p.kids.length=(O' k p.name).2.2;rw [show O' k p.name=d from e2];exact e1
 rw [h1,PA,P7 h4] at am;exact absurd rfl am
theorem N7 {k:Kn}{fs:List Pu}(hk:KnOk k fs):∀(f n:Nat) (cols:List PM) (aI:List Nat) (R:List Rw) (ak:List (List Nat)) (m:Nat),Mch cols aI R ak->(∀c∈cols,Good k m c)->5001<=n+f->Q4 k fs f n R ak=QT (Ps k fs f n cols aI)
 | 0,n,cols,aI,R,ak,m,_,_,hf=>by
  unfold Q4 Ps QT;rw [if_neg (by dsimp only;omega)]
 | f+1,n,cols,aI,R,ak,m,h,hg,hf=>by
  by_cases hn:5000<=n
  ·rw [Vq k fs _ _ _ _ hn,QT,if_neg (by dsimp only;omega)];unfold Q4;rw [Pc hn]
  unfold Q4;rw [P7 hn];have dK:=h.num;cases R with
  | nil=>
   rw [dK];show _=QT (Ps k fs (f+1) n cols []);rw [VW k fs f n cols (by omega)];exact (if_pos (by dsimp only;omega)).symm
  | cons r R'=>
   have nO:=h.first (r:=r) (by simp)
   have nP:aI=r.1::R'.map (·.1):=dK;dsimp only;cases hc:r.2.findIdx? (λp=> !Pm p) with
   | none=>
    dsimp only;rw [nP,V9 k fs f n cols r.1 _ (by omega) (nO.1 hc)];exact (if_pos (by dsimp only;omega)).symm
   | some c=>
    dsimp only;obtain ⟨bg,ax,g1,yM,g2,g3,g4,g5⟩:=nO.2 c hc;have nQ:=Vz k fs f n cols r.1 (R'.map (·.1)) ax yM (by omega) g1;rw [nP,nQ];unfold T9;dsimp only;rw [<-nP,g2,g3];generalize hR:r::R'=R at *
    have cw:=hg _ (Px yM);have ht:together k (Pq c R)=true:=by
     rw [<-g3];exact (cw.right.sub hk TW).together
    have hw:∀q∈R,c<q.2.length:=λq hq=>by rw [h.wid q hq];exact bg
    have hE:=ph0 (sO:=λx m=>Q4 k fs f m (QJ k R c x) (S2 ak c (O' k x.1).2.2)) (sP:=PG k fs f cols aI ax (Pq c R) (ak.getD c [])) (λx m=>ZJ k fs f m _ _) (Pg k (Pq c R)) (n+1) (by omega) (λx hx q hq=> ?_)
    ·rw [hE];by_cases h5:(P9 (PG k fs f cols aI ax (Pq c R) (ak.getD c [])) (Pg k (Pq c R)) (n+1)).2<=5000
     ·rw [QT,Pc h5,Sw];by_cases cA:Ss k fs (Pg k (Pq c R))=true
      ·rw [Pc cA,Pc cA,QT,Pc h5]
      rw [P7 cA,P7 cA];have hm:=h.sel (ax:=ax) bg (sel:=TH c) (many:=0) (new:=(List.range 0).map λi=>ak.getD c []++[i]) (mids:=[]) (nums':=QE aI (Pq c R)) (λq hq ins e=>by
       unfold TH at e;cases hp:q.2[c]? with
       | none=>rw [hp] at e;cases e
       | some p=>
        rw [hp] at e;dsimp only at e;cases hwp:Pm p with
        | false=>rw [hwp] at e;cases e
        | true=>
         rw [hwp,Pc rfl] at e;rw [<-Qs e]
         rfl) rfl (by rw [dK];exact uk1 h.nd hw) g4 g5 rfl
      rw [SH] at hm;have ez:∀d∈cols.take ax++cols.drop (ax+1),Good k m d:=λd hd=>by
       rcases PE.1 hd with hd | hd
       ·exact hg d (Sa hd)
       exact hg d (Sn hd)
      have mI:=NJ (step:=PG k fs f cols aI ax (Pq c R) (ak.getD c [])) (λx m=>ZJ k fs f m _ _) (Pg k (Pq c R)) (n+1);have ih:=N7 hk f (P9 (PG k fs f cols aI ax (Pq c R) (ak.getD c [])) (Pg k (Pq c R)) (n+1)).2 _ _ _ _ m hm ez (by omega);show (Q4 k fs f _ (RA R c) (S2 ak c 0)).map _=_;unfold RA S2;rw [ih];by_cases h6:(Ps k fs f (P9 (PG k fs f cols aI ax (Pq c R) (ak.getD c [])) (Pg k (Pq c R)) (n+1)).2 (cols.take ax++cols.drop (ax+1)) (QE aI (Pq c R))).2<=5000
      ·rw [QT,QT,Pc h6,Pc h6]
       rfl
      rw [QT,QT,P7 h6,P7 h6]
      rfl
     rw [QT,P7 h5,JI];by_cases cA:Ss k fs (Pg k (Pq c R))=true
     ·rw [Pc cA,QT,P7 h5]
     have:=ZJ k fs f (P9 (PG k fs f cols aI ax (Pq c R) (ak.getD c [])) (Pg k (Pq c R)) (n+1)).2 (cols.take ax++cols.drop (ax+1)) (QE aI (Pq c R));rw [if_neg cA,QT,if_neg (by dsimp only;omega)]
    have kY:=Ks hk ht hx;have h0:x.1=[]->(O' k x.1).2.2=0:=λe=>by rw [e,Xr hk]
    have hm:=h.sel (ax:=ax) bg (sel:=TU k c x) (many:=(O' k x.1).2.2) (new:=(List.range (O' k x.1).2.2).map λi=>ak.getD c []++[i]) (mids:=within k ((Pq c R).filter (Pk x)) x.1 (ak.getD c [])) (nums':=QE aI ((Pq c R).filter λs=> !Pk x s)) (yw kY h0) (by simp) (by rw [dK];exact pe0 h.nd hw x) g4 g5 (by
     rw [dK,pe0 (k:=k) h.nd hw x];exact VE hw kY h0 bg (ak.getD c []))
    have ez:∀d∈cols.take ax++within k ((Pq c R).filter (Pk x)) x.1 (ak.getD c [])++cols.drop (ax+1),Good k (m+1) d:=λd hd=>by
     rcases PE.1 hd with hd | hd
     ·rcases PE.1 hd with hd | hd
      ·exact (hg d (Sa hd)).up (by omega)
      rw [<-g3,<-g2] at hd;rw [<-g3] at hx;exact cw.within hk aI hx hd
     exact (hg d (Sn hd)).up (by omega)
    exact N7 hk f q _ _ _ _ (m+1) hm ez (by omega)
section
structure Alk (w v:World):Prop where
 heap:v.heap=w.heap
 os:v.os=w.os
 tape:v.tape=w.tape
 output:v.output=w.output
theorem Alk.below {a w v:World}{B:Nat}(h:Alk w v)(hb:Below B a w):Below B a v:=⟨h.os.trans hb.os,h.tape.trans hb.tape,h.output.trans hb.output,by rw [h.heap];exact hb.size,λx hx=>by rw [h.heap];exact hb.block x hx⟩
theorem Alk.keeps {w v:World}(h:Alk w v)(S:Nat->Prop):OZ S w v:=λx _=>by rw [h.heap]
theorem Alk.fr {w v:World}(h:Alk w v){S:Nat->Prop}{B:Nat}:∀x,Fr S B w x->Fr S B v x:=λx hx=>by
 unfold Fr at *
 rwa [h.heap]
theorem Alk.p1 {S:Nat->Prop}{wr w v:World}{af:List Sp}{x:Cs}{a u:Value}(h:Alk w v)(hp:P1 S wr af x a u w):P1 S wr af x a u v:=⟨h.below hp.1,(hp.2.1.on (h.keeps _)).up h.fr,(hp.2.2.on (h.keeps _)).up h.fr⟩
theorem Alk.p2 {S:Nat->Prop}{wr w v:World}{af:List Sp}{x:Cs}{a u:Value}{l:List PM}(h:Alk w v)(hp:P2 S wr af x a u l w):P2 S wr af x a u l v:=⟨h.below hp.1,(hp.2.1.on (h.keeps _)).up h.fr,(hp.2.2.on (h.keeps _)).up h.fr⟩
theorem Alk.p3 {S:Nat->Prop}{wr w v:World}{a u:Value}{l:List PM}{r:List Nat}(h:Alk w v)(hp:P3 S wr a u l r w):P3 S wr a u l r v:=⟨h.below hp.1,(hp.2.1.on (h.keeps _)).up h.fr,(hp.2.2.on (h.keeps _)).up h.fr⟩
section
variable {k:Kn}{fs:List Pu}{fa:Option Addr}{fc b m f n:Nat}{cols:List PM}{rows:List Nat}{ax:Nat}{g o cc:Nat}{rv sv pv:Value}{S:Nat->Prop}{W4 wr:World}{Cb i:Nat}{cur:Array Value}
theorem Bw.rd {step:Cs->Nat->Tr f×Nat}{cs:List Cs}{fv mv:Value}{af:List Sp}{path:List Nat}(h:Bw step cs n m fv mv W4 Cb i cur wr)(hr:Rd k fs fa fc b m cols rows g o cc rv sv pv af path S W4)(hS:∀x,S x->x≠Cb)(BL:b≠m)(zK:b≠Cb):Rd k fs fa fc b m cols rows g o cc rv sv pv af path S wr:=
 hr.on (λx hx=>h.keep x (hr.set x hx).1 (hr.set x hx).2 (hS x hx)) (h.keep b (Mv.lt hr.map) BL zK) h.size
theorem vp1 (hc:Cx k fs fa fc b m f n cols rows ax){af:List Sp}{path:List Nat}{cs:List Cs}(hsp:af=PK (cols[ax]'hc.ha).2.2 rows)(ut:path=(cols[ax]'hc.ha).1++[(cols[ax]'hc.ha).2.1])(aT:cs=Pg k af)(Ek:Rd k fs fa fc b m cols rows g o cc rv sv pv af path S W4)(hS:∀x,S x->x≠Cb)(zK:b≠Cb)(hm:m<W4.heap.size)(BM:Cb<W4.heap.size)(BK:m≠Cb)
  (h:Bw (PG k fs f cols rows ax af path) cs n m (.slice fa fs.length fc) (.map (some b)) W4 Cb i cur wr) (hi:i<cs.length) (bg:cs.length<=200):
  Calls Tryz.prog 72 #[sv,.agg #[.string ⟨cs[i].1.toArray⟩,.int .i64 cs[i].2,.int .i64 0,.int .i64 0,.slice none 0 0,.slice none 0 0,.slice none 0 0]] wr λr w1=>∃a u,r= .returned (.tuple #[a,u])/\Below wr.heap.size wr w1/\
  ∀v1,Alk w1 v1->Calls Tryz.prog 73 #[.agg #[.slice fa fs.length fc,.map (some b)],a,.string ⟨cs[i].1.toArray⟩,pv] v1 λr w2=>∃v,r= .returned v/\Below wr.heap.size wr w2/\
  ∀v2,Alk w2 v2->Calls Tryz.prog 76 #[.slice (some ⟨g,o,none⟩) cols.length cc,.int .i64 ax,v] v2 λr w3=>∃vv,r= .returned vv/\Below wr.heap.size wr w3/\
  ∀v3,Alk w3 v3->Calls Tryz.prog 77 #[rv,u] v3 λr w4=>∃y,r= .returned y/\Below wr.heap.size wr w4/\
  ∀v4,Alk w4 v4->Calls Tryz.prog 29 #[.pointer (some ⟨m,0,none⟩),vv,y] v4 λr w5=>∃ta tb pa pl pc ca cl cc ea el ec,r= .returned (.agg #[.int .i64 ta,.int .i64 tb,.slice pa pl pc,.slice ca cl cc,.slice ea el ec])/\w5.heap[Cb]? =some (.cells cur 53 (0,0))/\(∀x,x<wr.heap.size->x≠m->w5.heap[x]? =wr.heap[x]?)/\
   ∃U,U=((((w5.setCell ⟨Cb,i*7+2,none⟩ (.int .i64 ta)).setCell ⟨Cb,i*7+3,none⟩ (.int .i64 tb)).setCell ⟨Cb,i*7+4,none⟩ (.slice pa pl pc)).setCell ⟨Cb,i*7+5,none⟩ (.slice ca cl cc)).setCell ⟨Cb,i*7+6,none⟩ (.slice ea el ec)/\∃cur',cur'.size=cur.size/\Bw (PG k fs f cols rows ax af path) cs n m (.slice fa fs.length fc) (.map (some b)) W4 Cb (i+1) cur' U:=by
 subst hsp ut aT;have hr:=h.rd Ek hS hc.mapne zK;have hg:=hc.good (cols[ax]'hc.ha) (Px hc.ha);have lg:(PK (cols[ax]'hc.ha).2.2 rows).length<=200:=PZ (T8 _ _) hg.len;have hx:=Px hi;have hw:=Vs k ((PK (cols[ax]'hc.ha).2.2 rows).filter (Pk (Pg k (PK (cols[ax]'hc.ha).2.2 rows))[i])) (Pg k (PK (cols[ax]'hc.ha).2.2 rows))[i].1 ((cols[ax]'hc.ha).1++[(cols[ax]'hc.ha).2.1]);have ar5:=WU hc.hK (Pg k (PK (cols[ax]'hc.ha).2.2 rows))[i].1;have Ej:=hc.fuel;have dK:=hc.num;have bL:=hc.ha;refine (r1 hr _ lg).mono λr w1 h1=> ?_;obtain ⟨a,u,rfl,h1⟩:=h1;refine ⟨a,u,rfl,h1.1,λv1 a1=>(r2 hc hr hx (a1.p1 h1)).mono λr w2 h2=> ?_⟩;obtain ⟨v,rfl,h2⟩:=h2;refine ⟨v,rfl,h2.1,λv2 a2=>(r3 hc hr (by omega) (a2.p2 h2)).mono λr w3 h3=> ?_⟩;obtain ⟨vv,rfl,h3⟩:=h3;refine ⟨vv,rfl,h3.1,λv3 a3=>(r4 hc hr (a3.p2 h3)).mono λr w4 h4=> ?_⟩;obtain ⟨y,rfl,wa⟩:=h4;have kB:=h.cnt;refine ⟨y,rfl,wa.1,λv4 a4=> ?_⟩;have h4:=a4.p3 wa;refine (rd0 hc hr (n':=(P9 (PG k fs f cols rows ax (PK (cols[ax]'hc.ha).2.2 rows) ((cols[ax]'hc.ha).1++[(cols[ax]'hc.ha).2.1])) ((Pg k (PK (cols[ax]'hc.ha).2.2 rows)).take i) n).2) ⟨kB.1,by omega⟩ h.mblk h4.1 h4.2.1 h4.2.2 (λc aX=> ?_) ?_ (OB _ _)).mono λr w5 h5=> ?_
 ·rcases PE.1 aX with aX | aX
  ·rcases PE.1 aX with aX | aX
   ·exact (hc.good c (Sa aX)).up (by omega)
   have:=Good.within hc.hK hg rows hx aX;exact this.up (by omega)
  exact (hc.good c (Sn aX)).up (by omega)
 ·rw [QP,QP,RW,Um];omega
 obtain ⟨e1,e2,e3,a',b',pa,pl,pc,ca,cl,cc',ea,el,ec,rfl,e4,e5⟩:=h5;have eY:=h.step hi hm BM BK h4.1 e1 e2 e3 (ZJ k fs f _ _ _) e4 e5;exact ⟨a',b',pa,pl,pc,ca,cl,cc',ea,el,ec,rfl,eY.1,λx hx iX=>(e1.block x (by have:=h4.1.size;omega) iX).trans (h4.1.block x hx),eY.2⟩
theorem Bw.row {step:Cs->Nat->Tr f×Nat}{cs:List Cs}{fv mv:Value}(h:Bw step cs n m fv mv W4 Cb cs.length cur wr){B cap:Nat}{E:World}(hB:B<=Cb)(BM:Cb<W4.heap.size)(hsz:wr.heap.size<=E.heap.size)(aM:cs.length<=cap)(am:0<cs.length)(hk:∀x,x<wr.heap.size->(W4.heap.size<=x\/x=Cb)->E.heap[x]? =wr.heap[x]?)(fx:∀c∈cs,c.1.length<140737488355328):
  Pd 7 (λg o (c:Cs×Tr f)=>(B<=g/\g<E.heap.size)/\E.cell? ⟨g,o,none⟩=some (.string ⟨c.1.1.toArray⟩)/\E.cell? ⟨g,o+1,none⟩=some (.int .i64 c.1.2)/\c.1.1.length<140737488355328/\∃v0 v1 v2 v3 v4,E.cell? ⟨g,o+2,none⟩=some v0/\E.cell? ⟨g,o+3,none⟩=some v1/\E.cell? ⟨g,o+4,none⟩=some v2/\E.cell? ⟨g,o+5,none⟩=some v3/\E.cell? ⟨g,o+6,none⟩=some v4/\PL E (λx=>B<=x/\x<E.heap.size) f (.agg #[v0,v1,v2,v3,v4]) c.2)
   (.slice (some ⟨Cb,0,none⟩) (cs.zip (P9 step cs n).1).length cap) (cs.zip (P9 step cs n).1):=by
 have aA:(cs.zip (P9 step cs n).1).length=cs.length:=by rw [Yi,Y7];omega
 have uu:=h.size;have cP:E.heap[Cb]? =some (.cells cur 53 (0,0)):=(hk Cb (by omega) (.inr rfl)).trans h.cblk;have uw:cs.take cs.length=cs:=QM;have hd:=h.done;rw [uw] at hd;refine .inr ⟨Cb,0,cap,rfl,λe=>by rw [e] at aA;simp at aA;omega,by rw [aA];exact aM,λj hj=> ?_⟩;have eX:j<cs.length:=by rw [aA] at hj;exact hj
 rw [List.getElem_zip];obtain ⟨n0,n1⟩:=h.names j eX;obtain ⟨v0,v1,v2,v3,v4,d0,d1,d2,d3,d4,dt⟩:=hd j (by rw [Y7];exact eX);rw [Rp];refine ⟨⟨hB,by omega⟩,P0 cP n0,P0 cP n1,fx _ (Px eX),v0,v1,v2,v3,v4,P0 cP d0,P0 cP d1,P0 cP d2,P0 cP d3,P0 cP d4,?_⟩;exact PL.below (S:=λx=>W4.heap.size<=x/\x<wr.heap.size) (λx hx=>hk x hx.2 (.inl hx.1)) (λx hx=>⟨by omega,by omega⟩) f _ _ dt
theorem Bw.rowO {step:Cs->Nat->Tr f×Nat}{cs:List Cs}{fv mv:Value}(h:Bw step cs n m fv mv W4 Cb cs.length cur wr){E:World}(BM:Cb<W4.heap.size)(hk:∀x,x<wr.heap.size->(W4.heap.size<=x\/x=Cb)->E.heap[x]? =wr.heap[x]?):
  ∃aC:List (List Nat),aC.length=cs.length/\aC.flatten.Nodup/\(∀b∈aC.flatten,W4.heap.size<=b/\b<wr.heap.size)/\∀i (h:i<aC.length),∃g v0 v1 v2 v3 v4,some (⟨Cb,0,none⟩:Addr)=some ⟨g,0,none⟩/\E.cell? ⟨g,i*7+2,none⟩=some v0/\E.cell? ⟨g,i*7+3,none⟩=some v1/\E.cell? ⟨g,i*7+4,none⟩=some v2/\E.cell? ⟨g,i*7+5,none⟩=some v3/\E.cell? ⟨g,i*7+6,none⟩=some v4/\T1 E f (.agg #[v0,v1,v2,v3,v4]) aC[i]:=by
 obtain ⟨aC,l1,nd,rg,ow⟩:=h.own;have uu:=h.size;have cP:E.heap[Cb]? =some (.cells cur 53 (0,0)):=(hk Cb (by omega) (.inr rfl)).trans h.cblk;refine ⟨aC,l1,nd,rg,λi hi=> ?_⟩;obtain ⟨v0,v1,v2,v3,v4,d0,d1,d2,d3,d4,dt⟩:=ow i hi;refine ⟨Cb,v0,v1,v2,v3,v4,rfl,P0 cP d0,P0 cP d1,P0 cP d2,P0 cP d3,P0 cP d4,T1.on f _ _ dt λb hb=> ?_⟩;have:=rg b (RF.2 ⟨_,Px hi,hb⟩);exact hk b this.2 (.inl this.1)
end
end
section
def Jx (k:Kn)(fs:List Pu)(fa:Option Addr)(fc b m f n:Nat)(cols:List PM)(rows:List Nat)(ax:Nat)(c:PM)(w:World)(r:Ending)(w':World):Prop:=
 Kx m w w'/\w'.heap[m]? =some (.cells #[.slice fa fs.length fc,.map (some b),.int .i64 (T9 k fs f n cols rows ax c).2] 76 (0,0))/\(T9 k fs f n cols rows ax c).2<=5001+201*(f+1)/\
  ∃x,r= .returned x/\PL w' (λb=>w.heap.size<=b/\b<w'.heap.size) (f+1) x (T9 k fs f n cols rows ax c).1/\TN w' w.heap.size w'.heap.size (f+1) x
section
variable {k:Kn}{fs:List Pu}{fa:Option Addr}{fc b m f n:Nat}{cols:List PM}{rows:List Nat}{ax:Nat}{g o cc:Nat}{rv sv pv:Value}{S:Nat->Prop}{W4 wr:World}{Cb:Nat}{cur:Array Value}
theorem EC {af:List Sp}{w:World}{T:Nat->Prop}{v:Value}(hK:KnOk k fs)(ht:together k af=true)(hs:Q3 w T v af):∀c∈Pg k af,c.1.length<140737488355328/\(c.1≠[]->(O' k c.1).1<fs.length):=by
 intro c hc;obtain ⟨s,bH,rfl,_⟩:=U' hK ht hc;obtain ⟨_,e2,_⟩:=SF ht s bH s bH;have hn:s.2.name.length<140737488355328:=by
  obtain ⟨L,hL,_,hp⟩:=hs.list;rw [<-hL] at bH;obtain ⟨t,ht,rfl⟩:=PI.1 bH;exact (hp t ht).open.2.2.2.2.1
 unfold PA;by_cases h4:s.2.kind=4
 ·rw [Pc h4];refine ⟨hn,λ_=> ?_⟩;obtain ⟨c,l1,_,l3⟩:=Tg e2 h4;show (O' k s.2.name).1<_;rw [l3];exact hK.family _ (Su l1)
 rw [P7 h4];exact ⟨by simp,λh=>absurd rfl h⟩
theorem Nm {af:List Sp}(hK:KnOk k fs)(ht:together k af=true)(am:af≠[]):0<(Pg k af).length:=by
 cases af with
 | nil=>exact absurd rfl am
 | cons s r=>
  have:=((TS k (s::r) (Uf hK ht)).2 (PA s.2)).2 (by simp);exact List.length_pos_of_mem this
theorem vq1 (hc:Cx k fs fa fc b m f n cols rows ax){af:List Sp}{path:List Nat}{cs:List Cs}(hsp:af=PK (cols[ax]'hc.ha).2.2 rows)(aT:cs=Pg k af)(am:af≠[])(Ek:Rd k fs fa fc b m cols rows g o cc rv sv pv af path S W4)(hS:∀x,S x->x≠Cb)(zK:b≠Cb)(BM:Cb<W4.heap.size)
  (h:Bw (PG k fs f cols rows ax af path) cs n m (.slice fa fs.length fc) (.map (some b)) W4 Cb cs.length cur wr) (bg:cs.length<=200) (cap:Nat):
  ∀v5,Alk wr v5->Calls Tryz.prog 78 #[.agg #[.slice fa fs.length fc,.map (some b)],.slice (some ⟨Cb,0,none⟩) cs.length cap] v5 λr w6=>r= .returned (.bool (Ss k fs cs))/\Below wr.heap.size wr w6/\
  ∀v6,Alk w6 v6->Calls Tryz.prog 76 #[.slice (some ⟨g,o,none⟩) cols.length cc,.int .i64 ax,.slice none 0 0] v6 λr w7=>∃v2,r= .returned v2/\Below wr.heap.size wr w7/\
  ∀v7,Alk w7 v7->Calls Tryz.prog 77 #[rv,sv] v7 λr w8=>∃y,r= .returned y/\Below wr.heap.size wr w8/\
  ∀v8,Alk w8 v8->Calls Tryz.prog 29 #[.pointer (some ⟨m,0,none⟩),v2,y] v8 λr w9=>∃ta tb pa pl pc ca cl cc ea el ec,r= .returned (.agg #[.int .i64 ta,.int .i64 tb,.slice pa pl pc,.slice ca cl cc,.slice ea el ec])/\Kx m wr w9/\
   w9.heap[m]? =some (.cells #[.slice fa fs.length fc,.map (some b),.int .i64 (Ps k fs f (P9 (PG k fs f cols rows ax af path) cs n).2 (cols.take ax++cols.drop (ax+1)) (QE rows af)).2] 76 (0,0))/\(Ps k fs f (P9 (PG k fs f cols rows ax af path) cs n).2 (cols.take ax++cols.drop (ax+1)) (QE rows af)).2<=5001+201*(f+1)/\
   PL w9 (λx=>wr.heap.size<=x/\x<w9.heap.size) f (.agg #[.int .i64 ta,.int .i64 tb,.slice pa pl pc,.slice ca cl cc,.slice ea el ec]) (Ps k fs f (P9 (PG k fs f cols rows ax af path) cs n).2 (cols.take ax++cols.drop (ax+1)) (QE rows af)).1/\TN w9 wr.heap.size w9.heap.size f (.agg #[.int .i64 ta,.int .i64 tb,.slice pa pl pc,.slice ca cl cc,.slice ea el ec]):=by
 subst hsp aT;have hr:=h.rd Ek hS hc.mapne zK;have hg:=hc.good (cols[ax]'hc.ha) (Px hc.ha);have ou:=hg.right.sub hc.hK (a:=PK (cols[ax]'hc.ha).2.2 rows) TW;have lg:(PK (cols[ax]'hc.ha).2.2 rows).length<=200:=PZ (T8 _ _) hg.len;have Ej:=hc.fuel;have dK:=hc.num;have bL:=hc.ha;have hlt:∀x,S x->x<wr.heap.size:=λx hx=>(hr.set x hx).1;have h0:=Nm hc.hK ou.together am;have kp:=EC hc.hK ou.together hr.hsp _ (Px h0);have kB:=h.cnt;have um:=h.mblk;rw [QM] at kB um;have uu:=h.size;intro v5 a5;have wn:=hr.on (a5.keeps S) (by rw [a5.heap]) (by rw [a5.heap];exact P6 _);refine (WH fa fs fc Cb cap _ (λx hx=>(wn.set x hx).1) wn.map wn.fams (by rw [a5.heap];omega) h0 (P0 (by rw [a5.heap];exact h.cblk) (by have:=(h.names 0 h0).1;rwa [Uk] at this)) kp.1 kp.2 bg).mono λr w6 h6=> ?_;obtain ⟨rfl,h6⟩:=h6;have h6:Below wr.heap.size wr w6:=(a5.below (Pb wr.heap.size wr)).trans (by rw [a5.heap] at h6;exact h6);refine ⟨rfl,h6,λv6 a6=> ?_⟩;have h6:=a6.below h6;have Em:=h6.size;refine (rc0 g o cc cols [] (.slice none 0 0) ax (λx hx=>PQ (hlt x hx) Em) (hr.hcols.on (OZ.of h6 hlt)) hr.cap (.inl ⟨rfl,_,_,rfl⟩) (by simp;omega) hc.ha).mono λr w7 h7=> ?_;obtain ⟨h7,v2,rfl,Hk⟩:=h7;have hz7:=h7.size;refine ⟨v2,rfl,h6.trans (h7.mono Em),λv7 a7=> ?_⟩;have hb7:Below wr.heap.size wr v7:=a7.below (h6.trans (h7.mono Em));refine (nu0 rv sv rows _ (λx hx=>PQ (hlt x hx) hb7.size) (hr.hrows.on (OZ.of hb7 hlt)) (hr.hsp.on (OZ.of hb7 hlt)) (Zz hc.rise 200 hc.low) lg hc.rise (λs hs=> ?_) ?_).mono λr w8 h8=> ?_
 ·have:=(Sq.1 hs).2;simpa using this
 ·exact (hg.rise.sublist (TW.map _)).imp λh=>ZC h
 obtain ⟨h8,y,rfl,bj2⟩:=h8;have Hl:=h8.size;have e7:=a7.heap;refine ⟨y,rfl,hb7.trans (h8.mono hb7.size),λv8 a8=> ?_⟩;have hb8:Below wr.heap.size wr v8:=a8.below (hb7.trans (h8.mono hb7.size));have e8:=a8.heap;rw [SH] at Hk;have hC:Qw v8 (Fr S wr.heap.size v8) v2 (cols.take ax++cols.drop (ax+1)):=by
  refine (((Hk.on (a7.keeps _)).on (λx hx=>h8.block x ?_)).on (a8.keeps _)).up λx hx=> ?_
  ·rw [e7];rcases hx with hx | hx
   ·have:=hlt x hx;omega
   exact hx.2
  rcases hx with hx | hx
  ·exact .inl hx
  rw [e7] at Hl;exact .inr ⟨by omega,by rw [e8];omega⟩
 have hR:Pv v8 (Fr S wr.heap.size v8) y (QE rows (PK (cols[ax]'hc.ha).2.2 rows)):=(bj2.on (a8.keeps _)).up λx hx=>by
  rcases hx with hx | hx
  ·exact .inl hx
  exact .inr ⟨by have:=hb7.size;omega,by rw [e8];omega⟩
 refine (rd0 hc hr (n':=(P9 (PG k fs f cols rows ax (PK (cols[ax]'hc.ha).2.2 rows) path) (Pg k (PK (cols[ax]'hc.ha).2.2 rows)) n).2) ⟨kB.1,by omega⟩ um hb8 hC hR (λc aX=> ?_) ?_ (OB _ _)).mono λr w9 h9=> ?_
 ·rcases PE.1 aX with aX | aX
  ·exact (hc.good c (Sa aX)).up (by omega)
  exact (hc.good c (Sn aX)).up (by omega)
 ·rw [QP,RW,Um];omega
 obtain ⟨e1,e2,e3,a',b',pa,pl,pc,ca,cl,cc',ea,el,ec,rfl,e4,e5⟩:=h9;refine ⟨a',b',pa,pl,pc,ca,cl,cc',ea,el,ec,rfl,(Kx.of hb8).trans e1,e2,?_,PL.below (OZ.refl _ _) (λx hx=>⟨by have:=hb8.size;omega,hx.2⟩) f _ _ e4,e5.on (λ_ _ _=>rfl) hb8.size (P6 _)⟩;rcases Sk (P9 (PG k fs f cols rows ax (PK (cols[ax]'hc.ha).2.2 rows) path) (Pg k (PK (cols[ax]'hc.ha).2.2 rows)) n).2 5000 with dr | dr
 ·have:=e3.2 dr;omega
 have:=e3.1 dr;omega
theorem Vk {af:List Sp}{path:List Nat}{cs:List Cs}{w E:World}{els:List (Tr f)}{N R T Ph:Nat}{pa ea:Option Addr}{pc ec cap:Nat}{c:PM}(hK:KnOk k fs)(ht:together k af=true)(aT:cs=Pg k af)(am:af≠[])(hs4:Q3 W4 S sv af)
  (h:Bw (PG k fs f cols rows ax af path) cs n m (.slice fa fs.length fc) (.map (some b)) W4 Cb cs.length cur wr) (nQ:T9 k fs f n cols rows ax c=(((3,0,path),cs.zip (P9 (PG k fs f cols rows ax af path) cs n).1,els),N)) (hN:N<=5001+201*(f+1))
  (hw:Kx m w W4) (hR:R=w.heap.size) (af3:R<Ph) (bd5:Ph<=Cb) (ao2:Cb<T) (hT:T<W4.heap.size) (ux:m<w.heap.size) (aM:cs.length<=cap) (lh:Pv W4 (λx=>R<x/\x<Ph) (.slice pa path.length pc) path) {bp:List Nat}(Hm:QG W4 1 3 pa path.length pc bp) (uy:∀b∈bp,R<b/\b<Ph) (hcz:cur.size=cap*7/\cap<=200)
  (Bn:E.os=wr.os/\E.tape=wr.tape/\E.output=wr.output) (hsz:wr.heap.size<=E.heap.size) (hk:∀x,x<wr.heap.size->x≠m->x≠R->x≠T->E.heap[x]? =wr.heap[x]?) (hm:E.heap[m]? =some (.cells #[.slice fa fs.length fc,.map (some b),.int .i64 N] 76 (0,0)))
  (h5:Pd 5 (λg o (e:Tr f)=>(w.heap.size<=g/\g<E.heap.size)/\∃v0 v1 v2 v3 v4,E.cell? ⟨g,o,none⟩=some v0/\E.cell? ⟨g,o+1,none⟩=some v1/\E.cell? ⟨g,o+2,none⟩=some v2/\E.cell? ⟨g,o+3,none⟩=some v3/\E.cell? ⟨g,o+4,none⟩=some v4/\PL E (λb=>w.heap.size<=b/\b<E.heap.size) f (.agg #[v0,v1,v2,v3,v4]) e) (.slice ea els.length ec) els)
  {be:List Nat}{ess:List (List Nat)}(bx4:QG E 5 30 ea els.length ec be) (uz:ess.length=els.length) (cf3:(be++ess.flatten).Nodup/\∀b∈be++ess.flatten,wr.heap.size<=b/\b<E.heap.size) (bc2:∀i (h:i<ess.length),∃g v0 v1 v2 v3 v4,ea=some ⟨g,0,none⟩/\E.cell? ⟨g,i*5,none⟩=some v0/\E.cell? ⟨g,i*5+1,none⟩=some v1/\E.cell? ⟨g,i*5+2,none⟩=some v2/\E.cell? ⟨g,i*5+3,none⟩=some v3/\E.cell? ⟨g,i*5+4,none⟩=some v4/\T1 E f (.agg #[v0,v1,v2,v3,v4]) ess[i]):
  Jx k fs fa fc b m f n cols rows ax c w (.returned (.agg #[.int .i64 3,.int .i64 0,.slice pa path.length pc,.slice (some ⟨Cb,0,none⟩) cs.length cap,.slice ea els.length ec])) E:=by
 have uu:=h.size;have vN:=hw.size;have h0:0<cs.length:=by rw [aT];exact Nm hK ht am
 have aA:(cs.zip (P9 (PG k fs f cols rows ax af path) cs n).1).length=cs.length:=by rw [Yi,Y7];omega
 have au:=h.row (B:=w.heap.size) (cap:=cap) (E:=E) (by omega) (by omega) hsz aM h0 (λx hx iU=>hk x hx (by omega) (by omega) (by omega)) (by rw [aT];exact λc hc=>(EC hK ht hs4 c hc).1);unfold Jx;rw [nQ];refine ⟨⟨Bn.1.trans (h.os.trans hw.os),Bn.2.1.trans (h.tape.trans hw.tape),Bn.2.2.trans (h.output.trans hw.output),by omega,λx hx iX=> ?_⟩,hm,hN,_,rfl,?_,?_⟩
 ·rw [hk x (by omega) iX (by omega) (by omega),h.keep x (by omega) iX (by omega)];exact hw.block x hx iX
 ·refine ⟨pa,pc,some ⟨Cb,0,none⟩,cap,ea,ec,?_,?_,?_,h5⟩
  ·show _=Value.agg #[_,_,_,.slice _ (cs.zip (P9 (PG k fs f cols rows ax af path) cs n).1).length _,_];rw [aA]
   rfl
  ·exact (lh.on (λx hx=>(hk x (by omega) (by omega) (by omega) (by omega)).trans (h.keep x (by omega) (by omega) (by omega)))).up λx hx=>⟨by omega,by omega⟩
  exact au
 have kY:∀x,x<wr.heap.size->(W4.heap.size<=x\/x=Cb)->E.heap[x]? =wr.heap[x]? :=λx hx iU=>hk x hx (by omega) (by omega) (by omega);obtain ⟨aC,l1,nd,rg,ow⟩:=h.rowO (E:=E) (by omega) kY;have cl5:E.heap[Cb]? =some (.cells cur 53 (0,0)):=(kY Cb (by omega) (.inr rfl)).trans h.cblk;obtain ⟨ne,re⟩:=cf3;rw [S7] at ne;obtain ⟨ay2,bb6,bs5⟩:=ne;have BN:∀b∈be,wr.heap.size<=b/\b<E.heap.size:=λb hb=>re b (by simp [hb]);have BO:∀b∈ess.flatten,wr.heap.size<=b/\b<E.heap.size:=λb hb=>re b (PE.2 (.inr hb));have bw2:bp.Nodup:=by
  rcases Hm with ⟨_,_,_,e⟩ | ⟨g,cur,_,e,_⟩<;>rw [e]<;>simp
 refine ⟨bp++([Cb]++(be++(aC.flatten++ess.flatten))),⟨3,0,pa,path.length,pc,some ⟨Cb,0,none⟩,cs.length,cap,ea,els.length,ec,bp,[Cb],be,aC,ess,rfl,rfl,?_,.inr ⟨Cb,cur,rfl,rfl,cl5,hcz.1,aM,?_⟩,bx4,l1,uz,ow,bc2⟩,?_,?_⟩
 ·refine Hm.on λb hb=> ?_;have:=uy b hb;exact (hk b (by omega) (by omega) (by omega) (by omega)).trans (h.keep b (by omega) (by omega) (by omega))
 ·have:=hcz.2;unfold maxLen;omega
 ·rw [S7];refine ⟨bw2,?_,λa ha b hb e=> ?_⟩
  ·rw [S7];refine ⟨by simp,?_,λa ha b hb e=> ?_⟩
   ·rw [S7];refine ⟨ay2,?_,λa ha b hb e=> ?_⟩
    ·rw [S7];refine ⟨nd,bb6,λa ha b hb e=> ?_⟩;have:=rg a ha;have:=BO b hb;omega
    rcases PE.1 hb with hb | hb
    ·have:=BN a ha;have:=rg b hb;omega
    exact bs5 a ha b hb e
   have ha:a=Cb:=by simpa using ha
   rcases PE.1 hb with hb | hb
   ·have:=BN b hb;omega
   rcases PE.1 hb with hb | hb
   ·have:=rg b hb;omega
   have:=BO b hb;omega
  have:=uy a ha;rcases PE.1 hb with hb | hb
  ·have hb:b=Cb:=by simpa using hb
   omega
  rcases PE.1 hb with hb | hb
  ·have:=BN b hb;omega
  rcases PE.1 hb with hb | hb
  ·have:=rg b hb;omega
  have:=BO b hb;omega
 intro b hb;rcases PE.1 hb with hb | hb
 ·have:=uy b hb;omega
 rcases PE.1 hb with hb | hb
 ·have hb:b=Cb:=by simpa using hb
  omega
 rcases PE.1 hb with hb | hb
 ·have:=BN b hb;omega
 rcases PE.1 hb with hb | hb
 ·have:=rg b hb;omega
 have:=BO b hb;omega
end
end
