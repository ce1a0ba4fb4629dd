import Derived.Test.YtpdmkhnonbbhnaaGreatMnx
namespace Go.Proofs.YtpdmkhnonbbhnaaGreat
open Go.RowKit Go.Maps
set_option maxHeartbeats 8000000
set_option maxRecDepth 10000
section
variable {f:Nat}
theorem PL.vals {w:World}{S:Nat->Prop}{v0 v1 v2 v3 v4:Value}{t:Tr f}(h:PL w S f (.agg #[v0,v1,v2,v3,v4]) t):∃a b pa pl pc ca cl cc ea el ec,v0= .int .i64 a/\v1= .int .i64 b/\v2= .slice pa pl pc/\v3= .slice ca cl cc/\v4= .slice ea el ec:=by
 obtain ⟨a,b,pa,pl,pc,ca,cl,cc,ea,el,ec,e⟩:=h.parts;injection e with e;injection e with e;injection e with e0 e;injection e with e1 e;injection e with e2 e;injection e with e3 e;injection e with e4 e;exact ⟨a,b,pa,pl,pc,ca,cl,cc,ea,el,ec,e0,e1,e2,e3,e4⟩
theorem UR:∀(l:List Nat) (a B:Nat),a<=B->(∀x∈l,x<=B)->l.foldl max a<=B
 | [],_,_,h,_=>h
 | x::r,a,B,h,hl=>by
  rw [YD];exact UR r _ B (by have:=hl x (by simp);omega) (λy hy=>hl y (by simp [hy]))
theorem Zn:∀(f:Nat) (t:Tr f),Pa f t<=f+1
 | 0,_=>P6 _
 | f+1,t=>by
  unfold Pa;have h1:(t.2.1.map λc=>Pa f c.2).foldl max 0<=f+1:=UR _ _ _ (by omega) (λx hx=>by
   obtain ⟨c,_,rfl⟩:=PI.1 hx;exact Zn f c.2)
  have h2:=UR (t.2.2.map (Pa f)) _ (f+1) h1 (λx hx=>by
   obtain ⟨c,_,rfl⟩:=PI.1 hx;exact Zn f c)
  omega
def Sm:(f:Nat)->Tr f->Prop
 | 0,_=>True
 | f+1,t=>t.2.1.length<=200/\t.2.2.length<=1/\(∀c∈t.2.1,Sm f c.2)/\∀e∈t.2.2,Sm f e
theorem Sm.zero:∀f,Sm f (Qz f)
 | 0=>trivial
 | _+1=>⟨by simp [Qz],by simp [Qz],λc h=>by simp [Qz] at h,λc h=>by simp [Qz] at h⟩
def Tm (f:Nat)(t:Tr f):Prop:=∀(w:World) (S:Nat->Prop) (x:Value),(∀b,S b->b<w.heap.size)->PL w S f x t->Calls Tryz.prog 31 #[x] w λr w'=>r= .returned (.int .i64 (Pa f t))/\Below w.heap.size w w'
theorem OG (l:List Nat)(i a:Nat)(h:i<l.length):(l.take (i+1)).foldl max a=max ((l.take i).foldl max a) l[i]:=by
 rw [Zl l i h,Nn]
 rfl
theorem Mm (t:Tr (f+1))(fk:f<=5001)(fY:t.2.1.length<=200/\t.2.2.length<=1)(hC:∀c,(c∈t.2.1.map (·.2)\/c∈t.2.2)->Tm f c):Tm (f+1) t:=by
 intro w S x hS hx;obtain ⟨pa,pc,ca,cc,ea,ec,rfl,hN,eP,fz⟩:=hx;obtain ⟨_,_,ce,aK⟩:=Pd.open eP;injection ce with ce _ ch;subst ce ch;obtain ⟨_,_,cJ,ay⟩:=Pd.open fz;injection cJ with cJ _ d9;subst cJ d9;have hR:Pa (f+1) t=(t.2.2.map (Pa f)).foldl max ((t.2.1.map λc=>Pa f c.2).foldl max 0)+1:=rfl;have hb1:∀x∈(t.2.1.map λc=>Pa f c.2),x<=f+1:=λx hx=>by obtain ⟨c,_,rfl⟩:=PI.1 hx;exact Zn f c.2
 have hb2:∀x∈(t.2.2.map (Pa f)),x<=f+1:=λx hx=>by obtain ⟨c,_,rfl⟩:=PI.1 hx;exact Zn f c
 have dl:Hid (∀i (h:i<t.2.1.length),Tm f t.2.1[i].2):=λi h=>hC _ (.inl (PI.2 ⟨_,Px h,rfl⟩));have bx:Hid (∀i (h:i<t.2.2.length),Tm f t.2.2[i]):=λi h=>hC _ (.inr (Px h));rw [hR];generalize t.1.1=t0;generalize t.1.2.1=t1;generalize t.1.2.2.length=pl;clear hN eP fz hR hC;obtain ⟨bH,hs2⟩:=fY;generalize t.2.1=l1 at *
 generalize t.2.2=l2 at *
 have ep:=P4 aK;have ei:=P4 ay;have HS:=P4 hS;have bI:Hid (∀i,((l1.map λc=>Pa f c.2).take i).foldl max 0<=f+1):=λi=>UR _ _ _ (by omega) (λx hx=>hb1 x (Sa hx));have aS:Hid (∀i,((l2.map (Pa f)).take i).foldl max ((l1.map λc=>Pa f c.2).foldl max 0)<=f+1):=λi=>UR _ _ _ (UR _ _ _ (by omega) hb1) (λx hx=>hb2 x (Sa hx));clear aK ay hS hb1 hb2;have hW:∃W,W=w.alloc (Obj.cells #[.int .i64 t0,.int .i64 t1,.slice pa pl pc,.slice ca l1.length cc,.slice ea l2.length ec] 30)/\Below w.heap.size w W/\W.heap.size=w.heap.size+1/\W.cell? ⟨w.heap.size,3,none⟩=some (.slice ca l1.length cc)/\W.cell? ⟨w.heap.size,4,none⟩=some (.slice ea l2.length ec):=⟨_,rfl,(Pb _ _).alloc (P6 _) _,by simp,P0 (Qn w _) rfl,P0 (Qn w _) rfl⟩;obtain ⟨W,hW,an,aO,d3,d4⟩:=hW;have HW:=Ro an aO d4;clear an aO d4;go_enter Tryz.func31,Tryz.ntmps31
 go_upto_region 1 with fail
 rw [<-hW];clear hW;go_wp2;clear d3;have DW:=P4 fk;clear fk
 go_loopw [3,11] (λmv iv wr=>∃i:Nat,i<=l1.length/\mv= .int .i64 (((l1.map λc=>Pa f c.2).take i).foldl max 0:Nat)/\iv= .int .i64 i/\Hid (Below W.heap.size W wr)) (λ_ iv _=>l1.length-(intOf iv).toNat)
 case atStart=>exact ⟨0,by omega,by go_num,by go_num,Pb _ _⟩
 obtain ⟨i,hi,rfl,rfl,HT⟩:=hrel;have aV:=P4 (HW.1.trans (HT.mono (by have:=HW.2.1;omega)));by_cases ag:i<l1.length
 ·obtain ⟨g,o,rfl,hc,hr⟩:=ep.out (λe=>by rw [e] at ag;simp at ag);obtain ⟨s0,q0,q1,_,v0,v1,v2,v3,v4,q2,q3,q4,q5,q6,ht⟩:=hr i ag;obtain ⟨a,b,pa',pl',pc',ca',cl',cc',ea',el',ec',rfl,rfl,rfl,rfl,rfl⟩:=ht.vals;have hk:=OZ.of aV.out HS.out;have q0:=(hk.cell (p:=⟨g,o+i*7,none⟩) s0).trans q0;have q1:=(hk.cell (p:=⟨g,o+i*7+1,none⟩) s0).trans q1;have q2:=(hk.cell (p:=⟨g,o+i*7+2,none⟩) s0).trans q2;have q3:=(hk.cell (p:=⟨g,o+i*7+3,none⟩) s0).trans q3;have q4:=(hk.cell (p:=⟨g,o+i*7+4,none⟩) s0).trans q4;have q5:=(hk.cell (p:=⟨g,o+i*7+5,none⟩) s0).trans q5;have q6:=(hk.cell (p:=⟨g,o+i*7+6,none⟩) s0).trans q6;have aD:∃W1,W1=wr.alloc (Obj.cells #[.string ⟨l1[i].1.1.toArray⟩,.int .i64 l1[i].1.2,.int .i64 a,.int .i64 b,.slice pa' pl' pc',.slice ca' cl' cc',.slice ea' el' ec'] 53)/\Below wr.heap.size wr W1/\W1.heap.size=wr.heap.size+1/\W1.cell? ⟨wr.heap.size,2,none⟩=some (.int .i64 a)/\W1.cell? ⟨wr.heap.size,3,none⟩=some (.int .i64 b)/\W1.cell? ⟨wr.heap.size,4,none⟩=some (.slice pa' pl' pc')/\W1.cell? ⟨wr.heap.size,5,none⟩=some (.slice ca' cl' cc')/\W1.cell? ⟨wr.heap.size,6,none⟩=some (.slice ea' el' ec'):=⟨_,rfl,(Pb _ _).alloc (P6 _) _,by simp,P0 (Qn wr _) rfl,P0 (Qn wr _) rfl,P0 (Qn wr _) rfl,P0 (Qn wr _) rfl,P0 (Qn wr _) rfl⟩;obtain ⟨W1,aD,hb1,ck,x2,x3,x4,x5,x6⟩:=aD;have dY:OZ S w W1:=hk.trans (OZ.of hb1 λb hb=>PQ (HS.out b hb) aV.size);have CN:=dl.out i ag W1 S _ (λb hb=>by have:=HS.out b hb;have:=aV.size;omega) (PL.below dY (λ_ h=>h) f _ _ ht);have oB:=P4 (HT.trans (hb1.mono HT.size));have EB:=P4 oB.size;have bu:Hid (((l1.map λc=>Pa f c.2).take (i+1)).foldl max 0=max (((l1.map λc=>Pa f c.2).take i).foldl max 0) (Pa f l1[i].2)):=by
   have:=OG (l1.map λc=>Pa f c.2) i 0 (by simpa using ag);rw [R7] at this;exact this
  have i1:(0:Int)<=(i:Int):=by omega
  have i2:(i:Int)<(l1.length:Int):=by omega
  clear hk dY hr ht hb1 ck;generalize ((l1.map λc=>Pa f c.2).take i).foldl max 0=M at *
  generalize Pa f l1[i].2=N at *
  generalize l1[i].1.1=c0 at *
  generalize l1[i].1.2=c1 at *
  go_upto_region 5 with fail
  rw [<-aD];clear aD q0 q1 q2 q3 q4 q5 q6
  go_wp2_with (first | (go_at_call 31;(with_reducible refine Pe CN ?_);rintro e' w2 ⟨rfl,hb2⟩))
  refine ⟨⟨i+1,ag,by rw [bu.out];congr 1;omega,by go_num,oB.out.trans (hb2.mono EB.out)⟩,by simp [intOf];omega⟩
 obtain rfl:i=l1.length:=by omega
 have HM:Hid (((l1.map λc=>Pa f c.2).take l1.length).foldl max 0=(l1.map λc=>Pa f c.2).foldl max 0):=by
  show _=_
  congr 1
  exact Xi (by simp)
 rw [HM.out];have ag2:Hid ((l1.map λc=>Pa f c.2).foldl max 0<=f+1):=by
  have:=bI.out l1.length
  rwa [HM.out] at this
 generalize zu:(l1.map λc=>Pa f c.2).foldl max 0=M at *
 have DX:=P4 zu;clear zu;have d4:=(HT.cell (p:=⟨w.heap.size,4,none⟩) (by have:=HW.2.1;show w.heap.size<_;omega)).trans HW.2.2;go_wp2;have gr:=P4 aV.out;clear d4 HT bI dl ep
 go_loopw [3,24] (λmv iv gQ=>∃i:Nat,i<=l2.length/\mv= .int .i64 (((l2.map (Pa f)).take i).foldl max M:Nat)/\iv= .int .i64 i/\Hid (Below w.heap.size w gQ)) (λ_ iv _=>l2.length-(intOf iv).toNat)
 case atStart=>exact ⟨0,by omega,by go_num,by go_num,gr.out⟩
 obtain ⟨i,hi,rfl,rfl,HT⟩:=hrel;by_cases dM:i<l2.length
 ·obtain ⟨g,o,rfl,hc,hr⟩:=ei.out (λe=>by rw [e] at dM;simp at dM);obtain ⟨s0,v0,v1,v2,v3,v4,q2,q3,q4,q5,q6,ht⟩:=hr i dM;obtain ⟨a,b,pa',pl',pc',ca',cl',cc',ea',el',ec',rfl,rfl,rfl,rfl,rfl⟩:=ht.vals;have hk:=OZ.of HT.out HS.out;have q2:=(hk.cell (p:=⟨g,o+i*5,none⟩) s0).trans q2;have q3:=(hk.cell (p:=⟨g,o+i*5+1,none⟩) s0).trans q3;have q4:=(hk.cell (p:=⟨g,o+i*5+2,none⟩) s0).trans q4;have q5:=(hk.cell (p:=⟨g,o+i*5+3,none⟩) s0).trans q5;have q6:=(hk.cell (p:=⟨g,o+i*5+4,none⟩) s0).trans q6;have aD:∃W1,W1=wr.alloc (Obj.cells #[.int .i64 a,.int .i64 b,.slice pa' pl' pc',.slice ca' cl' cc',.slice ea' el' ec'] 30)/\Below wr.heap.size wr W1/\W1.heap.size=wr.heap.size+1/\W1.cell? ⟨wr.heap.size,0,none⟩=some (.int .i64 a)/\W1.cell? ⟨wr.heap.size,1,none⟩=some (.int .i64 b)/\W1.cell? ⟨wr.heap.size,2,none⟩=some (.slice pa' pl' pc')/\W1.cell? ⟨wr.heap.size,3,none⟩=some (.slice ca' cl' cc')/\W1.cell? ⟨wr.heap.size,4,none⟩=some (.slice ea' el' ec'):=⟨_,rfl,(Pb _ _).alloc (P6 _) _,by simp,P0 (Qn wr _) rfl,P0 (Qn wr _) rfl,P0 (Qn wr _) rfl,P0 (Qn wr _) rfl,P0 (Qn wr _) rfl⟩;obtain ⟨W1,aD,hb1,ck,x2,x3,x4,x5,x6⟩:=aD;have dY:OZ S w W1:=hk.trans (OZ.of hb1 λb hb=>PQ (HS.out b hb) HT.size);have CN:=bx.out i dM W1 S _ (λb hb=>by have:=HS.out b hb;have:=HT.size;omega) (PL.below dY (λ_ h=>h) f _ _ ht);have oB:=P4 (HT.trans (hb1.mono HT.size));have EB:=P4 oB.size;have bu:Hid (((l2.map (Pa f)).take (i+1)).foldl max M=max (((l2.map (Pa f)).take i).foldl max M) (Pa f l2[i])):=by
   have:=OG (l2.map (Pa f)) i M (by simpa using dM);rw [R7] at this;exact this
  have i1:(0:Int)<=(i:Int):=by omega
  have i2:(i:Int)<(l2.length:Int):=by omega
  clear hk dY hr ht hb1 ck;generalize ((l2.map (Pa f)).take i).foldl max M=M2 at *
  generalize Pa f l2[i]=N at *
  go_upto_region 10 with fail
  rw [<-aD];clear aD q2 q3 q4 q5 q6
  go_wp2_with (first | (go_at_call 31;(with_reducible refine Pe CN ?_);rintro e' w2 ⟨rfl,hb2⟩))
  refine ⟨⟨i+1,dM,by rw [bu.out];congr 1;omega,by go_num,oB.out.trans (hb2.mono EB.out)⟩,by simp [intOf];omega⟩
 obtain rfl:i=l2.length:=by omega
 have hM2:((l2.map (Pa f)).take l2.length).foldl max M=(l2.map (Pa f)).foldl max M:=by
  congr 1
  exact Xi (by simp)
 have br6:=aS.out l2.length;rw [hM2] at br6⊢;have HF:Hid ((l2.map (Pa f)).foldl max ((l1.map λc=>Pa f c.2).foldl max 0)+1=(l2.map (Pa f)).foldl max M+1):=by
  show _=_;rw [DX.out]
 have fk:=DW.out;clear hM2;generalize (l2.map (Pa f)).foldl max M=M2 at *
 have hw2:IntKind.i64.wrap ((M2:Int)+1)=((M2+1:Nat):Int):=by rw [RV];omega
 go_wp2;go_ret;refine ⟨?_,HT.out⟩;rw [HF.out]
 rfl
theorem F7:∀(f:Nat),f<=5001->∀(t:Tr f),Sm f t->Tm f t
 | 0,_,t,_=>by
  intro w S x hS hx;have h1:PL w S 1 x (Qz 1):=by
   have:x=_:=hx;rw [this];exact Y3 w S 1
  exact Mm (f:=0) (Qz 1) (by omega) ⟨by simp [Qz],by simp [Qz]⟩ (λc h=>by simp [Qz] at h) w S x hS h1
 | f+1,hf,t,hs=>Mm t (by omega) ⟨hs.1,hs.2.1⟩ λc hc=>by
  rcases hc with hc | hc
  ·obtain ⟨d,hd,rfl⟩:=PI.1 hc;exact F7 f (by omega) _ (hs.2.2.1 d hd)
  exact F7 f (by omega) _ (hs.2.2.2 c hc)
end
def bV (bs:List Bool):Array Value:=(bs.map Value.bool).toArray
def Qf (bs:List Bool)(l:List Nat):List Bool:=l.foldl (λb r=>b.set r true) bs
theorem TX:∀(l:List Nat) (bs:List Bool),(Qf bs l).length=bs.length
 | [],_=>rfl
 | a::r,bs=>by
  show (Qf (bs.set a true) r).length=_;rw [TX r,XO]
theorem OD (bs:List Bool)(a b:List Nat):Qf bs (a++b)=Qf (Qf bs a) b:=Nn
theorem Vi (bs:List Bool)(r:Nat):(bV bs).setIfInBounds r (.bool true)=bV (bs.set r true):=by
 unfold bV;rw [PN,N']
theorem OC {bs:List Bool}{r:Nat}(h:r<bs.length):(bV bs)[r]? =some (.bool bs[r]):=by
 unfold bV;simp [h]
def To (f:Nat)(t:Tr f):Prop:=∀(w:World) (S:Nat->Prop) (x:Value) (mb:Nat) (bs:List Bool),(∀b,S b->b<w.heap.size/\b≠mb)->PL w S f x t->w.heap[mb]? =some (.cells (bV bs) 4 (0,0))->(∀r∈Py f t,r<bs.length)->bs.length<=200->
 Calls Tryz.prog 58 #[x,.slice (some ⟨mb,0,none⟩) bs.length bs.length] w λr w'=>r= .returned (.tuple #[])/\Kx mb w w'/\w'.heap[mb]? =some (.cells (bV (Qf bs (Py f t))) 4 (0,0))
theorem NY {α β:Type}(g:α->List β)(l:List α)(i:Nat)(h:i<l.length):(l.take (i+1)).flatMap g=(l.take i).flatMap g++g l[i]:=by
 rw [Zl l i h,WW];simp
structure Mt (mb:Nat)(bs:List Bool)(l:List Nat)(W wr:World):Prop where
 kx:Kx mb W wr
 blk:wr.heap[mb]? =some (.cells (bV (Qf bs l)) 4 (0,0))
theorem Du {f:Nat}(t:Tr (f+1))(fY:t.2.1.length<=200/\t.2.2.length<=1)(hC:∀c,(c∈t.2.1.map (·.2)\/c∈t.2.2)->To f c):To (f+1) t:=by
 intro w S x mb bs hS hx aE bM hbs;obtain ⟨pa,pc,ca,cc,ea,ec,rfl,hN,eP,fz⟩:=hx;obtain ⟨_,_,ce,aK⟩:=Pd.open eP;injection ce with ce _ ch;subst ce ch;obtain ⟨_,_,cJ,ay⟩:=Pd.open fz;injection cJ with cJ _ d9;subst cJ d9;have hR:Py (f+1) t=(if t.1.1=2 then [t.1.2.1] else [])++(t.2.1.flatMap λc=>Py f c.2)++t.2.2.flatMap (Py f):=rfl;have dl:Hid (∀i (h:i<t.2.1.length),To f t.2.1[i].2):=λi h=>hC _ (.inl (PI.2 ⟨_,Px h,rfl⟩));have bx:Hid (∀i (h:i<t.2.2.length),To f t.2.2[i]):=λi h=>hC _ (.inr (Px h));rw [hR] at bM⊢;obtain ⟨bH,hs2⟩:=fY;have pW:Hid (∀i (h:i<t.2.1.length),∀r∈Py f t.2.1[i].2,r<bs.length):=λi h r hr=>bM r (PE.2 (.inl (PE.2 (.inr (V7.2 ⟨_,Px h,hr⟩)))));have kA:Hid (∀i (h:i<t.2.2.length),∀r∈Py f t.2.2[i],r<bs.length):=λi h r hr=>bM r (PE.2 (.inr (V7.2 ⟨_,Px h,hr⟩)));have E5:Hid (t.1.1=2->t.1.2.1<bs.length):=λh=>bM _ (by simp [h]);generalize t.1.1=t0 at *
 generalize t.1.2.1=t1 at *
 generalize t.1.2.2.length=pl at *
 clear hN eP fz hR hC;generalize t.2.1=l1 at *
 generalize t.2.2=l2 at *
 have ep:=P4 aK;have ei:=P4 ay;have HS:=P4 hS;have lO:=PV aE;have hW:∃W,W=w.alloc (Obj.cells #[.int .i64 t0,.int .i64 t1,.slice pa pl pc,.slice ca l1.length cc,.slice ea l2.length ec] 30)/\Below w.heap.size w W/\W.heap.size=w.heap.size+1/\W.heap[w.heap.size]? =some (.cells #[.int .i64 t0,.int .i64 t1,.slice pa pl pc,.slice ca l1.length cc,.slice ea l2.length ec] 30 (0,0)):=⟨_,rfl,(Pb _ _).alloc (P6 _) _,by simp,PF w _⟩;obtain ⟨W,hW,an,aO,hT⟩:=hW;have HW:=S6 an aO lO hT;have zA:=(an.block mb lO).trans aE;have d0:=P5 hT (i:=0) rfl;have d1:=P5 hT (i:=1) rfl;have rj:=P4 zA;have BW:=P4 lO;clear aK ay hS bM an aO hT aE zA lO;by_cases h2:t0=2
 all_goals
  first
  | (
   subst h2;rw [Pc rfl];have hlt:=E5.out rfl;have y:=P5 rj.out (OC hlt);have z:=Pp (o:=t1) rj.out;have i1:(0:Int)<=(t1:Int):=by omega
   have i2:(t1:Int)<(bs.length:Int):=by omega
   have mQ:Hid (Mt mb bs [t1] W (W.setCell ⟨mb,t1,none⟩ (.bool true))):=⟨(Kx.refl _ _).setCell _ _,by
    have:=Q5 (i:=t1) (v:= .bool true) rj.out;rw [Vi] at this;exact this⟩
   obtain ⟨Wm,ED⟩:∃Wm,Wm=W.setCell ⟨mb,t1,none⟩ (.bool true):=⟨_,rfl⟩;rw [<-ED] at mQ;generalize ([t1]:List Nat)=j6 at *
   generalize bs[t1]=bb at *
   clear hlt;go_enter Tryz.func58,Tryz.ntmps58
   go_upto_region 1 with fail
   rw [<-hW];clear hW
   go_upto_region 3 with fail
   rw [<-ED];clear ED d0 d1 y z)
  | (
   rw [P7 h2];have mQ:Hid (Mt mb bs [] W W):=⟨Kx.refl _ _,rj.out⟩;generalize ([]:List Nat)=j6 at *
   go_enter Tryz.func58,Tryz.ntmps58
   go_upto_region 1 with fail
   rw [<-hW];clear hW
   go_upto_region 3 with fail
   clear d0 d1)
 all_goals
  have d3:=P5 ((mQ.kx.block w.heap.size (by have:=HW.2.1;omega) (by have:=BW.out;omega)).trans HW.2.2.2) (i:=3) rfl;go_wp2;clear d3
  go_loopw [18] (λiv wr=>∃i:Nat,i<=l1.length/\iv= .int .i64 i/\Hid (Mt mb bs (j6++(l1.take i).flatMap λc=>Py f c.2) W wr)) (λiv _=>l1.length-(intOf iv).toNat)
  case atStart=>exact ⟨0,by omega,by go_num,by show Mt _ _ _ _ _;have:=mQ.out;simpa using this⟩
  obtain ⟨i,hi,rfl,HT⟩:=hrel;have t7:Hid (OZ S w wr):=λx hx=>(HT.kx.block x (by have:=HW.2.1;have:=HS.out x hx;omega) (HS.out x hx).2).trans (HW.1.block x (HS.out x hx).1);have mz:Hid (w.heap.size+1<=wr.heap.size):=by
   show _<=_;have:=HT.kx.size;have:=HW.2.1;omega
  by_cases ag:i<l1.length
  ·obtain ⟨g,o,rfl,hc,hr⟩:=ep.out (λe=>by rw [e] at ag;simp at ag);obtain ⟨s0,q0,q1,_,v0,v1,v2,v3,v4,q2,q3,q4,q5,q6,ht⟩:=hr i ag;obtain ⟨a,b,pa',pl',pc',ca',cl',cc',ea',el',ec',rfl,rfl,rfl,rfl,rfl⟩:=ht.vals;have hk:=t7.out;have q0:=(hk.cell (p:=⟨g,o+i*7,none⟩) s0).trans q0;have q1:=(hk.cell (p:=⟨g,o+i*7+1,none⟩) s0).trans q1;have q2:=(hk.cell (p:=⟨g,o+i*7+2,none⟩) s0).trans q2;have q3:=(hk.cell (p:=⟨g,o+i*7+3,none⟩) s0).trans q3;have q4:=(hk.cell (p:=⟨g,o+i*7+4,none⟩) s0).trans q4;have q5:=(hk.cell (p:=⟨g,o+i*7+5,none⟩) s0).trans q5;have q6:=(hk.cell (p:=⟨g,o+i*7+6,none⟩) s0).trans q6;have aD:∃W1,W1=wr.alloc (Obj.cells #[.string ⟨l1[i].1.1.toArray⟩,.int .i64 l1[i].1.2,.int .i64 a,.int .i64 b,.slice pa' pl' pc',.slice ca' cl' cc',.slice ea' el' ec'] 53)/\Below wr.heap.size wr W1/\W1.heap.size=wr.heap.size+1/\W1.cell? ⟨wr.heap.size,2,none⟩=some (.int .i64 a)/\W1.cell? ⟨wr.heap.size,3,none⟩=some (.int .i64 b)/\W1.cell? ⟨wr.heap.size,4,none⟩=some (.slice pa' pl' pc')/\W1.cell? ⟨wr.heap.size,5,none⟩=some (.slice ca' cl' cc')/\W1.cell? ⟨wr.heap.size,6,none⟩=some (.slice ea' el' ec'):=⟨_,rfl,(Pb _ _).alloc (P6 _) _,by simp,P0 (Qn wr _) rfl,P0 (Qn wr _) rfl,P0 (Qn wr _) rfl,P0 (Qn wr _) rfl,P0 (Qn wr _) rfl⟩;obtain ⟨W1,aD,hb1,ck,x2,x3,x4,x5,x6⟩:=aD;have kD:=mz.out;have EE:=BW.out;have dY:OZ S w W1:=hk.trans (OZ.of hb1 λb hb=>by have:=(HS.out b hb).1;omega);have CN:=dl.out i ag W1 S _ mb (Qf bs (j6++(l1.take i).flatMap λc=>Py f c.2)) (λb hb=>⟨by have:=(HS.out b hb).1;omega,(HS.out b hb).2⟩) (PL.below dY (λ_ h=>h) f _ _ ht) ((hb1.block mb (by omega)).trans HT.out.blk) (λr hr=>by rw [TX];exact pW.out i ag r hr) (by rw [TX];exact hbs);rw [TX,<-OD,T5,<-NY _ _ _ ag] at CN;have bz:=P4 (HT.kx.trans (Kx.of hb1));have i1:(0:Int)<=(i:Int):=by omega
   have i2:(i:Int)<(l1.length:Int):=by omega
   clear hk dY hr ht hb1 ck kD EE;generalize l1[i].1.1=c0 at *
   generalize l1[i].1.2=c1 at *
   go_upto_region 6 with fail
   rw [<-aD];clear aD q0 q1 q2 q3 q4 q5 q6
   go_wp2_with (first | (go_at_call 58;(with_reducible refine Pe CN ?_);rintro e' w2 ⟨rfl,hk2,hb2⟩))
   refine ⟨⟨i+1,ag,by go_num,bz.trans hk2,hb2⟩,by simp [intOf];omega⟩
  obtain rfl:i=l1.length:=by omega
  have HT:Hid (Mt mb bs (j6++l1.flatMap λc=>Py f c.2) W wr):=by
   have:=HT.out
   rwa [QM] at this
  have d4:=P5 ((HT.kx.block w.heap.size (by have:=HW.2.1;omega) (by have:=BW.out;omega)).trans HW.2.2.2) (i:=4) rfl;go_wp2;clear d4
  go_loopw [30] (λiv wr=>∃i:Nat,i<=l2.length/\iv= .int .i64 i/\Hid (Mt mb bs (j6++(l1.flatMap λc=>Py f c.2)++(l2.take i).flatMap (Py f)) W wr)) (λiv _=>l2.length-(intOf iv).toNat)
  case atStart=>exact ⟨0,by omega,by go_num,by show Mt _ _ _ _ _;have:=HT.out;simpa using this⟩
  obtain ⟨i,hi,rfl,HT⟩:=hrel;have t7:Hid (OZ S w wr):=λx hx=>(HT.kx.block x (by have:=HW.2.1;have:=HS.out x hx;omega) (HS.out x hx).2).trans (HW.1.block x (HS.out x hx).1);have mz:Hid (w.heap.size+1<=wr.heap.size):=by
   show _<=_;have:=HT.kx.size;have:=HW.2.1;omega
  by_cases dM:i<l2.length
  ·obtain ⟨g,o,rfl,hc,hr⟩:=ei.out (λe=>by rw [e] at dM;simp at dM);obtain ⟨s0,v0,v1,v2,v3,v4,q2,q3,q4,q5,q6,ht⟩:=hr i dM;obtain ⟨a,b,pa',pl',pc',ca',cl',cc',ea',el',ec',rfl,rfl,rfl,rfl,rfl⟩:=ht.vals;have hk:=t7.out;have q2:=(hk.cell (p:=⟨g,o+i*5,none⟩) s0).trans q2;have q3:=(hk.cell (p:=⟨g,o+i*5+1,none⟩) s0).trans q3;have q4:=(hk.cell (p:=⟨g,o+i*5+2,none⟩) s0).trans q4;have q5:=(hk.cell (p:=⟨g,o+i*5+3,none⟩) s0).trans q5;have q6:=(hk.cell (p:=⟨g,o+i*5+4,none⟩) s0).trans q6;have aD:∃W1,W1=wr.alloc (Obj.cells #[.int .i64 a,.int .i64 b,.slice pa' pl' pc',.slice ca' cl' cc',.slice ea' el' ec'] 30)/\Below wr.heap.size wr W1/\W1.heap.size=wr.heap.size+1/\W1.cell? ⟨wr.heap.size,0,none⟩=some (.int .i64 a)/\W1.cell? ⟨wr.heap.size,1,none⟩=some (.int .i64 b)/\W1.cell? ⟨wr.heap.size,2,none⟩=some (.slice pa' pl' pc')/\W1.cell? ⟨wr.heap.size,3,none⟩=some (.slice ca' cl' cc')/\W1.cell? ⟨wr.heap.size,4,none⟩=some (.slice ea' el' ec'):=⟨_,rfl,(Pb _ _).alloc (P6 _) _,by simp,P0 (Qn wr _) rfl,P0 (Qn wr _) rfl,P0 (Qn wr _) rfl,P0 (Qn wr _) rfl,P0 (Qn wr _) rfl⟩;obtain ⟨W1,aD,hb1,ck,x2,x3,x4,x5,x6⟩:=aD;have kD:=mz.out;have EE:=BW.out;have dY:OZ S w W1:=hk.trans (OZ.of hb1 λb hb=>by have:=(HS.out b hb).1;omega);have CN:=bx.out i dM W1 S _ mb (Qf bs (j6++(l1.flatMap λc=>Py f c.2)++(l2.take i).flatMap (Py f))) (λb hb=>⟨by have:=(HS.out b hb).1;omega,(HS.out b hb).2⟩) (PL.below dY (λ_ h=>h) f _ _ ht) ((hb1.block mb (by omega)).trans HT.out.blk) (λr hr=>by rw [TX];exact kA.out i dM r hr) (by rw [TX];exact hbs);rw [TX,<-OD,T5 _ _ (Py f l2[i]),<-NY _ _ _ dM] at CN;have bz:=P4 (HT.kx.trans (Kx.of hb1));have i1:(0:Int)<=(i:Int):=by omega
   have i2:(i:Int)<(l2.length:Int):=by omega
   clear hk dY hr ht hb1 ck kD EE
   go_upto_region 11 with fail
   rw [<-aD];clear aD q2 q3 q4 q5 q6
   go_wp2_with (first | (go_at_call 58;(with_reducible refine Pe CN ?_);rintro e' w2 ⟨rfl,hk2,hb2⟩))
   refine ⟨⟨i+1,dM,by go_num,bz.trans hk2,hb2⟩,by simp [intOf];omega⟩
  obtain rfl:i=l2.length:=by omega
  have HT:Hid (Mt mb bs (j6++(l1.flatMap λc=>Py f c.2)++l2.flatMap (Py f)) W wr):=by
   have:=HT.out
   rwa [QM] at this
  go_wp2;refine Yq (v:= .tuple #[]) (by simp [results,Tryz.results58,go_sem]) rfl ?_;refine ⟨rfl,(Kx.of HW.1).trans HT.kx,?_⟩;have:=HT.blk;simpa using this
theorem JL:∀(f:Nat) (t:Tr f),Sm f t->To f t
 | 0,t,_=>by
  intro w S x mb bs hS hx hb hl hbs;have h1:PL w S 1 x (Qz 1):=by
   have:x=_:=hx;rw [this];exact Y3 w S 1
  exact Du (f:=0) (Qz 1) ⟨by simp [Qz],by simp [Qz]⟩ (λc h=>by simp [Qz] at h) w S x mb bs hS h1 hb (λr hr=>by simp [Py,Qz] at hr) hbs
 | f+1,t,hs=>Du t ⟨hs.1,hs.2.1⟩ λc hc=>by
  rcases hc with hc | hc
  ·obtain ⟨d,hd,rfl⟩:=PI.1 hc;exact JL f _ (hs.2.2.1 d hd)
  exact JL f _ (hs.2.2.2 c hc)
theorem Tryz.info50:(Tryz.prog.info? 50).map (λi=>(i.zero,i.size,i.bytes))=some (some (.agg #[.int .i64 0,.string ⟨#[]⟩,.int .i64 0,.slice none 0 0]),4,56):=by kernel_rfl
def TT:Array Value:= #[.int .i64 0,.string ⟨#[]⟩,.int .i64 0,.slice none 0 0]
theorem vu1 (w:World)(n:Nat)(hn:n<=1000):∃c,(Instr.makeSlice 31 (.int .i64 n) (.int .i64 n)).run Tryz.prog w= .ok (.slice (some ⟨w.heap.size,0,none⟩) n n) (w.alloc (.cells c 50))/\c.size=n*4/\∀j,j<n->c[j*4]? =some (.int .i64 0)/\c[j*4+1]? =some (.string ⟨#[]⟩)/\c[j*4+2]? =some (.int .i64 0)/\c[j*4+3]? =some (.slice none 0 0):=by
 obtain ⟨i0,hi,c8,bK,bJ⟩:=info_parts Tryz.info50;have:=Y6 (P:=Tryz.prog) w 31 50 i0 _ Tryz.underlying31 hi c8 .i64 .i64 n n (by omega) (Yp _) (by rw [bK];simp;omega) (by rw [bJ];omega) (by omega);refine ⟨madeCells TT (n*4),?_,by simp [madeCells],λj hj=> ?_⟩
 ·have tO:(Value.agg #[.int .i64 0,.string ⟨#[]⟩,.int .i64 0,.slice none 0 0]).cells=TT:=rfl;rw [tO] at this;simpa [bK] using this
 have bS:∀i,i<4->(madeCells TT (n*4))[j*4+i]? =some (TT[i]!):=λi hi=>by
  have h1:j*4+i<n*4:=by omega
  have h2:(j*4+i) % 4=i:=by omega
  have h3:TT.size=4:=rfl;unfold madeCells;rw [Array.getElem?_map,Array.getElem?_range,Pc h1];show some (TT[(j*4+i) % TT.size]!)=_;rw [h3,h2]
 exact ⟨bS 0 (by omega),bS 1 (by omega),bS 2 (by omega),bS 3 (by omega)⟩
structure Ww (n Lb:Nat)(W:World)(i:Nat)(cur:Array Value)(wr:World):Prop where
 below:Below Lb W wr
 hsize:wr.heap.size=W.heap.size
 blk:wr.heap[Lb]? =some (.cells cur 50 (0,0))
 size:cur.size=n*4
 row:∀j,j<n->cur[j*4]? =some (.int .i64 (if j<i then 1 else 0))/\cur[j*4+1]? =some (.string ⟨#[]⟩)/\cur[j*4+2]? =some (.int .i64 0)/\cur[j*4+3]? =some (.slice none 0 0)
theorem Ww.put {n Lb:Nat}{W:World}{i:Nat}{cur:Array Value}{wr:World}(h:Ww n Lb W i cur wr)(hi:i<n):Ww n Lb W (i+1) (cur.setIfInBounds (i*4) (.int .i64 1)) (wr.setCell ⟨Lb,i*4,none⟩ (.int .i64 1)):=by
 refine ⟨h.below.setCell (p:=⟨Lb,i*4,none⟩) (P6 _) _,by simpa [World.setCell] using h.hsize,Q5 h.blk,by simpa using h.size,λj hj=> ?_⟩;have hs:=h.size;obtain ⟨r0,r1,r2,r3⟩:=h.row j hj;refine ⟨?_,?_,?_,?_⟩
 ·by_cases e:j=i
  ·subst e;rw [Q9,Pc rfl,Pc (by omega),Pc (by omega)]
  rw [Q9,P7 (by omega),r0];by_cases h2:j<i
  ·rw [Pc h2,Pc (by omega)]
  rw [P7 h2,P7 (by omega)]
 ·rw [Q9,P7 (by omega),r1]
 ·rw [Q9,P7 (by omega),r2]
 rw [Q9,P7 (by omega),r3]
def S5 (w:World)(B n:Nat):Prop:=∃cur,w.heap[B]? =some (.cells cur 50 (0,0))/\cur.size=n*4/\∀j,j<n->cur[j*4]? =some (.int .i64 1)/\cur[j*4+1]? =some (.string ⟨#[]⟩)/\cur[j*4+2]? =some (.int .i64 0)/\cur[j*4+3]? =some (.slice none 0 0)
theorem Me (w:World)(n:Nat)(hn:n<=1000):Calls Tryz.prog 83 #[.int .i64 n] w λr w'=>r= .returned (.slice (some ⟨w.heap.size,0,none⟩) n n)/\Below w.heap.size w w'/\w'.heap.size=w.heap.size+1/\S5 w' w.heap.size n:=by
 obtain ⟨c0,fp,hc0,pN⟩:=vu1 w n hn;have HX:Hid (Ww n w.heap.size (w.alloc (.cells c0 50)) 0 c0 (w.alloc (.cells c0 50))):=⟨Pb _ _,rfl,PF w _,hc0,λj h=>by rw [P7 (by omega)];exact pN j h⟩;have jd:Hid (Below w.heap.size w (w.alloc (.cells c0 50))/\(w.alloc (.cells c0 50)).heap.size=w.heap.size+1):=⟨(Pb w.heap.size w).alloc (P6 _) _,by simp⟩;generalize eM:w.alloc (.cells c0 50)=W2 at *
 clear eM hc0 pN;go_enter Tryz.func83,Tryz.ntmps83;go_wp2
 go_loopw [9] (λiv wr=>∃(i:Nat) (cur:Array Value),i<=n/\iv= .int .i64 i/\Hid (Ww n w.heap.size W2 i cur wr)) (λiv _=>n-(intOf iv).toNat)
 case atStart=>exact ⟨0,c0,by omega,by go_num,HX.out⟩
 obtain ⟨i,cur,hi,rfl,HT⟩:=hrel;by_cases ag:i<n
 ·have i1:(0:Int)<=(i:Int):=by omega
  have i2:(i:Int)<(n:Int):=by omega
  have y0:=P5 HT.blk (HT.row i ag).1;have z0:=Pp (o:=i*4) HT.blk;go_wp2
  go_roundw
  case rel=>exact ⟨i+1,_,ag,by go_num,HT.put ag⟩
  case measure=>simp [intOf];omega
 obtain rfl:i=n:=by omega
 go_wp2;go_ret;have h:=HT.out;refine ⟨rfl,jd.1.trans h.below,h.hsize.trans jd.2,cur,h.blk,h.size,λj hj=> ?_⟩;have:=h.row j hj
 rwa [Pc hj] at this
section
variable {w:World}
def SW (w:World)(lo:Nat)(q:Lb×Nat)(v:Value):Prop:=∃ad cap,v= .agg #[.int .i64 q.1.1,.string ⟨q.1.2.1.toArray⟩,.int .i64 q.1.2.2,.slice ad q.2 cap]/\((ad=none/\q.2=0/\cap=0)\/∃B,ad=some ⟨B,0,none⟩/\cap=q.2/\lo<=B/\B<w.heap.size/\S5 w B q.2)
theorem Z5 {R:Nat}{c0 c1 c2 c3:Value}{t:TypeId}(h:w.heap[R]? =some (.cells #[c0,c1,c2,c3] t (0,0)))(v0 v1 v2 v3:Value):
  ∃U,U=(((w.setCell ⟨R,0,none⟩ v0).setCell ⟨R,1,none⟩ v1).setCell ⟨R,2,none⟩ v2).setCell ⟨R,3,none⟩ v3/\U.heap[R]? =some (.cells #[v0,v1,v2,v3] t (0,0))/\U.heap.size=w.heap.size/\(∀x,x≠R->U.heap[x]? =w.heap[x]?)/\U.os=w.os/\U.tape=w.tape/\U.output=w.output:=by
 have a0:=Q5 (i:=0) (v:=v0) h;have a1:=Q5 (i:=1) (v:=v1) a0;have a2:=Q5 (i:=2) (v:=v2) a1;have a3:=Q5 (i:=3) (v:=v3) a2;have hk:=((((Kx.refl R w).setCell 0 v0).setCell 1 v1).setCell 2 v2).setCell 3 v3;have e:(((#[c0,c1,c2,c3].setIfInBounds 0 v0).setIfInBounds 1 v1).setIfInBounds 2 v2).setIfInBounds 3 v3= #[v0,v1,v2,v3]:=rfl;rw [e] at a3;refine ⟨_,rfl,a3,by simp [World.setCell],λx hx=> ?_,hk.os,hk.tape,hk.output⟩;rw [PX _ _ _ _ hx,PX _ _ _ _ hx,PX _ _ _ _ hx,PX _ _ _ _ hx]
theorem Jy {b:Nat}{k:Kn}(fa:Option Addr)(fl fc:Nat)(c:Cs)(hM:PP w b k)(hn:c.1.length<140737488355328)(hf:(O' k c.1).2.2<=8)(h0:c.1≠[]->c.2=0):
  Calls Tryz.prog 81 #[.agg #[.slice fa fl fc,.map (some b)],.string ⟨c.1.toArray⟩,.int .i64 c.2] w λr w'=>Below w.heap.size w w'/\∃v,r= .returned v/\SW w' w.heap.size (Pr k c) v:=by
 have hA:∃A,A=(w.alloc (.cells #[.slice fa fl fc,.map (some b)] 69)).alloc (.cells #[.int .i64 0,.string ⟨#[]⟩,.int .i64 0,.slice none 0 0] 50)/\Below w.heap.size w A/\A.heap.size=w.heap.size+2/\A.cell? ⟨w.heap.size,1,none⟩=some (.map (some b))/\A.heap[w.heap.size+1]? =some (.cells #[.int .i64 0,.string ⟨#[]⟩,.int .i64 0,.slice none 0 0] 50 (0,0)):=by
  refine ⟨_,rfl,((Pb _ _).alloc (P6 _) _).alloc (by simp) _,by simp,?_,?_⟩
  ·exact P5 ((Qq _ _ _ (by simp)).trans (PF w _)) rfl
  have:=PF (w.alloc (.cells #[.slice fa fl fc,.map (some b)] 69)) (.cells #[.int .i64 0,.string ⟨#[]⟩,.int .i64 0,.slice none 0 0] 50);simpa using this
 obtain ⟨A,hA,fX,mS,d1,hR⟩:=hA;have HA:=Ro fX mS hR;have EF:PP A b k:=hM.on (fX.block b (Mv.lt hM));have s0:=P5 hR (i:=0) rfl;have s1:=P5 hR (i:=1) rfl;have s2:=P5 hR (i:=2) rfl;have s3:=P5 hR (i:=3) rfl;have z0:=Pp (o:=0) hR;have z1:=Pp (o:=1) hR;have z2:=Pp (o:=2) hR;have z3:=Pp (o:=3) hR;by_cases hc:c.1=[]
 ·have hP:Pr k c=((3,[],c.2),0):=by unfold Pr;rw [Pc hc]
  rw [hP,hc];obtain ⟨U,hU,aG,bj,c9,aP⟩:=Z5 hR (.int .i64 3) (.string ⟨#[]⟩) (.int .i64 c.2) (.slice none 0 0);have HU:=Ro bj c9 aP;clear bj c9 aP fX mS hR EF hM hf h0;generalize c.2=num at *
  clear hc hn hP;have es:((⟨([]:List UInt8).toArray⟩:ByteArray)==⟨#[]⟩)=true:=rfl;go_enter Tryz.func81,Tryz.ntmps81
  go_upto_region 1 with fail
  rw [<-hA];clear hA;go_wp2;rw [<-hU];have u0:=P5 aG (i:=0) rfl;have u1:=P5 aG (i:=1) rfl;have u2:=P5 aG (i:=2) rfl;have u3:=P5 aG (i:=3) rfl;refine Qv (v:= .agg #[.int .i64 3,.string ⟨#[]⟩,.int .i64 num,.slice none 0 0]) (by simp [results,Tryz.results81,go_sem,u0,u1,u2,u3]) rfl ?_;have hE:=HU.out;have hb:=HA.out;refine ⟨⟨hE.2.2.1.trans hb.1.os,hE.2.2.2.1.trans hb.1.tape,hE.2.2.2.2.trans hb.1.output,by omega,λx hx=>(hE.2.1 x (by omega)).trans (hb.1.block x hx)⟩,_,rfl,none,0,rfl,.inl ⟨rfl,rfl,rfl⟩⟩
 have hP:Pr k c=((4,c.1,0),(O' k c.1).2.2):=by unfold Pr;rw [P7 hc]
 rw [hP,h0 hc];have hl:=EF.look1 c.1 hn;unfold kV at hl;have CW:=Me A (O' k c.1).2.2 (by omega);have HC:=P4 hc;have es:c.1.isEmpty=false:=by simpa using hc
 generalize (O' k c.1).2.2=fn at *
 generalize (O' k c.1).1=f1 at *
 generalize (O' k c.1).2.1=f2 at *
 have aY:=Z2 f1 f2 fn A;clear fX mS hR EF hM h0 hP;generalize c.1=con at *
 go_enter Tryz.func81,Tryz.ntmps81
 go_upto_region 1 with fail
 rw [<-hA];clear hA;clear s0 s1 s2 s3 z0 z1 z2 z3
 go_wp2_with (first | (go_at_call 83;(with_reducible refine Pe CW ?_);rintro e' w2 ⟨rfl,hb2,hs2,hw2⟩;have eJ:=(hb2.block (w.heap.size+1) (by have:=HA.2.1;omega)).trans HA.2.2;have s0:=P5 eJ (i:=0) rfl;have s1:=P5 eJ (i:=1) rfl;have s2:=P5 eJ (i:=2) rfl;have s3:=P5 eJ (i:=3) rfl;have z0:=Pp (o:=0) eJ;have z1:=Pp (o:=1) eJ;have z2:=Pp (o:=2) eJ;have z3:=Pp (o:=3) eJ))
 obtain ⟨U,hU,aG,bj,c9,aP⟩:=Z5 eJ (.int .i64 4) (.string ⟨con.toArray⟩) (.int .i64 0) (.slice (some ⟨A.heap.size,0,none⟩) fn fn);rw [<-hU];have u0:=P5 aG (i:=0) rfl;have u1:=P5 aG (i:=1) rfl;have u2:=P5 aG (i:=2) rfl;have u3:=P5 aG (i:=3) rfl;refine Qv (v:= .agg #[.int .i64 4,.string ⟨con.toArray⟩,.int .i64 0,.slice (some ⟨A.heap.size,0,none⟩) fn fn]) (by simp [results,Tryz.results81,go_sem,u0,u1,u2,u3]) rfl ?_;have hb:=HA.out;obtain ⟨cur,w1,w3,w4⟩:=hw2;refine ⟨⟨aP.1.trans (hb2.os.trans hb.1.os),aP.2.1.trans (hb2.tape.trans hb.1.tape),aP.2.2.trans (hb2.output.trans hb.1.output),by omega,λx hx=>(c9 x (by omega)).trans ((hb2.block x (by omega)).trans (hb.1.block x hx))⟩,_,rfl,some ⟨A.heap.size,0,none⟩,fn,rfl,.inr ⟨A.heap.size,rfl,rfl,by omega,by omega,cur,(c9 _ (by omega)).trans w1,w3,w4⟩⟩
end
section
variable {w:World}
theorem rp0 (k:Kn)(con:Qg):∀(l:List Cs) (c:Cs) (g:Nat),PJ k con (l++[c]) g=if (con=[]/\c.2=(PJ k con l g:Int))\/(con≠[]/\(O' k c.1).2.1=PJ k con l g) then PJ k con l g+1 else PJ k con l g
 | [],_,_=>rfl
 | _::r,c,_=>rp0 k con r c _
theorem rq0 (k:Kn)(con:Qg)(l:List Cs)(i:Nat)(h:i<l.length):PJ k con (l.take (i+1)) 0=if (con=[]/\l[i].2=(PJ k con (l.take i) 0:Int))\/(con≠[]/\(O' k l[i].1).2.1=PJ k con (l.take i) 0) then PJ k con (l.take i) 0+1 else PJ k con (l.take i) 0:=by
 rw [Zl l i h,rp0]
theorem OX (k:Kn)(con:Qg):∀(l:List Cs) (g:Nat),PJ k con l g<=g+l.length
 | [],_=>P6 _
 | c::r,g=>by
  unfold PJ;have:=OX k con r (if (con=[]/\c.2=(g:Int))\/(con≠[]/\(O' k c.1).2.1=g) then g+1 else g);rw [Rj];by_cases h:(con=[]/\c.2=(g:Int))\/(con≠[]/\(O' k c.1).2.1=g)
  ·rw [Pc h] at this⊢;omega
  rw [P7 h] at this⊢;omega
def Tz (w:World)(S:Nat->Prop)(g o:Nat)(c:Cs):Prop:=S g/\w.cell? ⟨g,o,none⟩=some (.string ⟨c.1.toArray⟩)/\w.cell? ⟨g,o+1,none⟩=some (.int .i64 c.2)/\c.1.length<140737488355328/\∃a b pa pl pc ca cl cc ea el ec,w.cell? ⟨g,o+2,none⟩=some (.int .i64 a)/\w.cell? ⟨g,o+3,none⟩=some (.int .i64 b)/\w.cell? ⟨g,o+4,none⟩=some (.slice pa pl pc)/\w.cell? ⟨g,o+5,none⟩=some (.slice ca cl cc)/\w.cell? ⟨g,o+6,none⟩=some (.slice ea el ec)
theorem LS {w1 w2:World}{R:Nat}{q:Lb×Nat}{ad:Option Addr}{cp:Nat}{c0 c1 c2 c3:Value}(hR:w2.heap[R]? =some (.cells #[c0,c1,c2,c3] 50 (0,0)))(hb:Below w.heap.size w w2)(as7:w.heap.size<=R)(af5:R<w1.heap.size)(hB:(ad=none/\q.2=0/\cp=0)\/∃B,ad=some ⟨B,0,none⟩/\cp=q.2/\w1.heap.size<=B/\B<w2.heap.size/\S5 w2 B q.2):
  ∃U,U=(((w2.setCell ⟨R,0,none⟩ (.int .i64 q.1.1)).setCell ⟨R,1,none⟩ (.string ⟨q.1.2.1.toArray⟩)).setCell ⟨R,2,none⟩ (.int .i64 q.1.2.2)).setCell ⟨R,3,none⟩ (.slice ad q.2 cp)/\U.heap[R]? =some (.cells #[.int .i64 q.1.1,.string ⟨q.1.2.1.toArray⟩,.int .i64 q.1.2.2,.slice ad q.2 cp] 50 (0,0))/\Below w.heap.size w U/\SW U w.heap.size q (.agg #[.int .i64 q.1.1,.string ⟨q.1.2.1.toArray⟩,.int .i64 q.1.2.2,.slice ad q.2 cp]):=by
 obtain ⟨U,hU,aG,bj,c9,aP⟩:=Z5 hR (.int .i64 q.1.1) (.string ⟨q.1.2.1.toArray⟩) (.int .i64 q.1.2.2) (.slice ad q.2 cp);refine ⟨U,hU,aG,⟨aP.1.trans hb.os,aP.2.1.trans hb.tape,aP.2.2.trans hb.output,by rw [bj];exact hb.size,λx hx=>(c9 x (by omega)).trans (hb.block x hx)⟩,ad,cp,rfl,?_⟩;rcases hB with h | ⟨B,e1,e2,e3,e4,cur,bn4,w3,w4⟩
 ·exact .inl h
 exact .inr ⟨B,e1,e2,by omega,by omega,cur,(c9 _ (by omega)).trans bn4,w3,w4⟩
theorem vx1 {S:Nat->Prop}{b:Nat}{k:Kn}(fa:Option Addr)(fs:List Pu)(fc g o cap:Nat)(cs:List Cs)(hS:∀b,S b->b<w.heap.size)(hM:PP w b k)(h0:0<cs.length)(aM:cs.length<=cap)(bg:cs.length<=200)(hr:∀j (h:j<cs.length),Tz w S g (o+j*7) cs[j])(hc:cs[0].1=[])(hf:(O' k []).2.2<=8):
  Calls Tryz.prog 82 #[.agg #[.slice fa fs.length fc,.map (some b)],.slice (some ⟨g,o,none⟩) cs.length cap] w λr w'=>Below w.heap.size w w'/\∃v,r= .returned v/\SW w' w.heap.size (R8 k fs cs) v:=by
 have HO:Hid (R8 k fs cs=Pr k ([],(PJ k [] cs 0:Nat))):=by
  show _=_;cases cs with
  | nil=>simp at h0
  | cons c r=>
   have:c.1=[]:=hc;unfold R8;simp only;rw [Pc this]
 rw [HO.out];have HS:=P4 hS;have HM:=P4 hM;have HR:=P4 hr;have HF:=P4 hf;have hA:∃A,A=(w.alloc (.cells #[.slice fa fs.length fc,.map (some b)] 69)).alloc (.cells #[.int .i64 0,.string ⟨#[]⟩,.int .i64 0,.slice none 0 0] 50)/\Below w.heap.size w A/\A.heap.size=w.heap.size+2/\A.heap[w.heap.size]? =some (.cells #[.slice fa fs.length fc,.map (some b)] 69 (0,0))/\A.heap[w.heap.size+1]? =some (.cells #[.int .i64 0,.string ⟨#[]⟩,.int .i64 0,.slice none 0 0] 50 (0,0)):=by
  refine ⟨_,rfl,((Pb _ _).alloc (P6 _) _).alloc (by simp) _,by simp,?_,?_⟩
  ·exact (Qq _ _ _ (by simp)).trans (PF w _)
  have:=PF (w.alloc (.cells #[.slice fa fs.length fc,.map (some b)] 69)) (.cells #[.int .i64 0,.string ⟨#[]⟩,.int .i64 0,.slice none 0 0] 50);simpa using this
 obtain ⟨A,hA,fX,mS,hB,hR⟩:=hA;have HA:=S6 fX mS hB hR;obtain ⟨s0,q0,_⟩:=hr 0 h0;rw [Uk,TO,hc] at q0;have q0:=(fX.cell (p:=⟨g,o,none⟩) (hS g s0)).trans q0;have j1:(0:Int)<(cs.length:Int):=by omega
 clear fX mS hB hR hM hr hS hf;go_enter Tryz.func82,Tryz.ntmps82
 go_upto_region 1 with fail
 rw [<-hA];clear hA;go_wp2;clear q0
 go_loopw [6,15] (λgv iv wr=>∃i:Nat,i<=cs.length/\gv= .int .i64 (PJ k [] (cs.take i) 0:Nat)/\iv= .int .i64 i/\Hid (Below A.heap.size A wr)) (λ_ iv _=>cs.length-(intOf iv).toNat)
 case atStart=>exact ⟨0,by omega,by go_num,by go_num,Pb _ _⟩
 obtain ⟨i,hi,rfl,rfl,HT⟩:=hrel;have aV:=P4 (HA.1.trans (HT.mono (by have:=HA.2.1;omega)));by_cases ag:i<cs.length
 ·obtain ⟨s0,q0,q1,_,a,b',pa',pl',pc',ca',cl',cc',ea',el',ec',q2,q3,q4,q5,q6⟩:=HR.out i ag;have hk:=OZ.of aV.out HS.out;have q0:=(hk.cell (p:=⟨g,o+i*7,none⟩) s0).trans q0;have q1:=(hk.cell (p:=⟨g,o+i*7+1,none⟩) s0).trans q1;have q2:=(hk.cell (p:=⟨g,o+i*7+2,none⟩) s0).trans q2;have q3:=(hk.cell (p:=⟨g,o+i*7+3,none⟩) s0).trans q3;have q4:=(hk.cell (p:=⟨g,o+i*7+4,none⟩) s0).trans q4;have q5:=(hk.cell (p:=⟨g,o+i*7+5,none⟩) s0).trans q5;have q6:=(hk.cell (p:=⟨g,o+i*7+6,none⟩) s0).trans q6;have aD:∃W1,W1=wr.alloc (Obj.cells #[.string ⟨cs[i].1.toArray⟩,.int .i64 cs[i].2,.int .i64 a,.int .i64 b',.slice pa' pl' pc',.slice ca' cl' cc',.slice ea' el' ec'] 53)/\Below wr.heap.size wr W1/\W1.cell? ⟨wr.heap.size,1,none⟩=some (.int .i64 cs[i].2):=⟨_,rfl,(Pb _ _).alloc (P6 _) _,P0 (Qn wr _) rfl⟩;obtain ⟨W1,aD,hb1,x1⟩:=aD;have bI:=P4 (HT.trans (hb1.mono HT.size));have bu:=rq0 k [] cs i ag;have oC:=OX k [] (cs.take i) 0;have lR:(cs.take i).length<=200:=by rw [RW];omega
  have i1:(0:Int)<=(i:Int):=by omega
  have i2:(i:Int)<(cs.length:Int):=by omega
  generalize PJ k [] (cs.take i) 0=G at *
  have av7:IntKind.i64.wrap ((G:Int)+1)=((G+1:Nat):Int):=by rw [RV];omega
  by_cases q9:cs[i].2=(G:Int)
  ·rw [Pc (.inl ⟨rfl,q9⟩)] at bu;have bQ:=P4 bu;rw [q9] at q1 x1 aD;clear bu q9 hk hb1 oC lR;generalize cs[i].1=nm at *
   go_upto_region 5 with fail
   rw [<-aD];clear aD q0 q1 q2 q3 q4 q5 q6;go_wp2;refine ⟨⟨i+1,ag,?_,by go_num,bI.out⟩,by simp [intOf];omega⟩;rw [bQ.out]
   rfl
  rw [P7 (by simp [q9])] at bu;have bQ:=P4 bu;have ch3:(cs[i].2==(G:Int))=false:=by simpa using q9
  clear bu hk hb1 oC lR;generalize cs[i].1=nm at *
  generalize cs[i].2=num at *
  go_upto_region 5 with fail
  rw [<-aD];clear aD q0 q1 q2 q3 q4 q5 q6;go_wp2;refine ⟨⟨i+1,ag,?_,by go_num,bI.out⟩,by simp [intOf];omega⟩;rw [bQ.out]
 obtain rfl:i=cs.length:=by omega
 rw [QM];have uH:=(HT.block w.heap.size (by have:=HA.2.1;omega)).trans HA.2.2.1;have d0:=P5 uH (i:=0) rfl;have d1:=P5 uH (i:=1) rfl;have EG:=P4 ((HT.block (w.heap.size+1) (by have:=HA.2.1;omega)).trans HA.2.2.2);generalize Hy:PJ k [] cs 0=G at *
 have jq:=P4 Hy;clear Hy;have CP:=Jy (w:=wr) fa fs.length fc ([],(G:Int)) (HM.on (aV.block b (Mv.lt HM.out))) (by simp) HF.out (λh=>absurd rfl h);have HZ:Hid (w.heap.size+2<=wr.heap.size):=by
  show _<=_;have:=HT.size;have:=HA.2.1;omega
 clear uH
 go_wp2_with (first | (go_at_call 81;(with_reducible refine Pe CP ?_);rintro e' w2 ⟨hb2,v,rfl,ad,cp,rfl,hbare⟩;have eJ:=(hb2.block (w.heap.size+1) (by have:=HZ.out;omega)).trans EG.out;have s0:=P5 eJ (i:=0) rfl;have s1:=P5 eJ (i:=1) rfl;have s2:=P5 eJ (i:=2) rfl;have s3:=P5 eJ (i:=3) rfl;have z0:=Pp (o:=0) eJ;have z1:=Pp (o:=1) eJ;have z2:=Pp (o:=2) eJ;have z3:=Pp (o:=3) eJ))
 have hz:=HZ.out;obtain ⟨U,hU,aG,aZ,EH⟩:=LS (w:=w) (w1:=wr) eJ (aV.trans (hb2.mono aV.size)) (by omega) (by omega) hbare;rw [<-hU];have u0:=P5 aG (i:=0) rfl;have u1:=P5 aG (i:=1) rfl;have u2:=P5 aG (i:=2) rfl;have u3:=P5 aG (i:=3) rfl;rw [jq.out];refine Qv (v:= .agg #[.int .i64 (Pr k ([],(G:Int))).1.1,.string ⟨(Pr k ([],(G:Int))).1.2.1.toArray⟩,.int .i64 (Pr k ([],(G:Int))).1.2.2,.slice ad (Pr k ([],(G:Int))).2 cp]) (by simp [results,Tryz.results82,go_sem,u0,u1,u2,u3]) rfl ?_;exact ⟨aZ,_,rfl,EH⟩
end
section
variable {w:World}{b:Nat}{k:Kn}
theorem vy1 (g o fl fc:Nat)(con:Qg)(hg:g<w.heap.size)(hM:PP w b k)(jc:con.length<140737488355328)(bh:(O' k con).1<fl)(ad ad':Option Addr)(n cap n' cap':Nat)(c0:w.cell? ⟨g,o+(O' k con).1*2,none⟩=some (.slice ad n cap))(c1:w.cell? ⟨g,o+(O' k con).1*2+1,none⟩=some (.slice ad' n' cap')):
  Calls Tryz.prog 96 #[.agg #[.slice (some ⟨g,o,none⟩) fl fc,.map (some b)],.string ⟨con.toArray⟩] w λr w'=>Below w.heap.size w w'/\r= .returned (.agg #[.slice ad n cap,.slice ad' n' cap']):=by
 have hW:∃W,W=(w.alloc (Obj.cells #[.slice (some ⟨g,o,none⟩) fl fc,.map (some b)] 69)).alloc (Obj.cells #[.slice none 0 0,.slice none 0 0] 48)/\Below w.heap.size w W/\W.heap.size=w.heap.size+2/\W.cell? ⟨w.heap.size,0,none⟩=some (.slice (some ⟨g,o,none⟩) fl fc)/\W.cell? ⟨w.heap.size,1,none⟩=some (.map (some b))/\W.heap[w.heap.size+1]? =some (.cells #[.slice none 0 0,.slice none 0 0] 48 (0,0)):=by
  refine ⟨_,rfl,((Pb _ _).alloc (P6 _) _).alloc (by simp) _,by simp,?_,?_,?_⟩
  ·exact P5 ((Qq _ _ _ (by simp)).trans (PF w _)) rfl
  ·exact P5 ((Qq _ _ _ (by simp)).trans (PF w _)) rfl
  have:=PF (w.alloc (Obj.cells #[.slice (some ⟨g,o,none⟩) fl fc,.map (some b)] 69)) (Obj.cells #[.slice none 0 0,.slice none 0 0] 48)
  rwa [show (w.alloc (Obj.cells #[.slice (some ⟨g,o,none⟩) fl fc,.map (some b)] 69)).heap.size=w.heap.size+1 by simp] at this
 obtain ⟨W,hW,an,aO,d0,d1,d2⟩:=hW;have c0:=(an.cell (p:=⟨g,o+(O' k con).1*2,none⟩) hg).trans c0;have c1:=(an.cell (p:=⟨g,o+(O' k con).1*2+1,none⟩) hg).trans c1;have pM:PP W b k:=hM.on (an.block b (Mv.lt hM));have hl:=pM.look1 con jc;unfold kV at hl;have e0:=P5 d2 (i:=0) rfl;have e1:=P5 d2 (i:=1) rfl;have z0:=Pp (o:=0) d2;have z1:=Pp (o:=1) d2;have ca7:(0:Int)<=((O' k con).1:Int):=by omega
 have sD:((O' k con).1:Int)<(fl:Int):=by omega
 have aY:=Of (O' k con).1 (O' k con).2.1 (O' k con).2.2 W;have HB:Hid (Below w.heap.size w W/\W.heap.size=w.heap.size+2):=⟨an,aO⟩;have hU:∃U,U=(W.setCell ⟨w.heap.size+1,0,none⟩ (.slice ad n cap)).setCell ⟨w.heap.size+1,1,none⟩ (.slice ad' n' cap')/\Below w.heap.size w U/\U.cell? ⟨w.heap.size+1,0,none⟩=some (.slice ad n cap)/\U.cell? ⟨w.heap.size+1,1,none⟩=some (.slice ad' n' cap'):=by
  have h1:=Q5 (i:=1) (v:= .slice ad' n' cap') (Q5 (i:=0) (v:= .slice ad n cap) d2);exact ⟨_,rfl,(an.setCell (p:=⟨w.heap.size+1,0,none⟩) (by simp) _).setCell (p:=⟨w.heap.size+1,1,none⟩) (by simp) _,P5 h1 rfl,P5 h1 rfl⟩
 obtain ⟨U,hU,ii,s0,s1⟩:=hU;have nK:Hid (Below w.heap.size w U):=ii;generalize (O' k con).1=l1 at *
 generalize (O' k con).2.1=l2 at *
 generalize (O' k con).2.2=l3 at *
 clear hM pM an aO d2 bh ii;go_enter Tryz.func96,Tryz.ntmps96
 go_upto_region 1 with fail
 rw [<-hW];clear hW;go_wp2;rw [<-hU];refine Qv (v:= .agg #[.slice ad n cap,.slice ad' n' cap']) (by simp [results,Tryz.results96,go_sem,s0,s1]) rfl ?_;exact ⟨nK.out,rfl⟩
theorem vz1 {S:Nat->Prop}(fa:Option Addr)(fs:List Pu)(fc g o cap:Nat)(cs:List Cs)(hS:∀b,S b->b<w.heap.size)(hM:PP w b k)(h0:0<cs.length)(aM:cs.length<=cap)(bg:cs.length<=200)(hr:∀j (h:j<cs.length),Tz w S g (o+j*7) cs[j])(hc:cs[0].1≠[])(hK:KnOk k fs)(hF:PH w S (.slice fa fs.length fc) fs)(bh:(O' k cs[0].1).1<fs.length)(wE:PJ k cs[0].1 cs 0<fs[(O' k cs[0].1).1].1.length):
  Calls Tryz.prog 82 #[.agg #[.slice fa fs.length fc,.map (some b)],.slice (some ⟨g,o,none⟩) cs.length cap] w λr w'=>Below w.heap.size w w'/\∃v,r= .returned v/\SW w' w.heap.size (R8 k fs cs) v:=by
 have HO:Hid (R8 k fs cs=Pr k (fs[(O' k cs[0].1).1].1[PJ k cs[0].1 cs 0],0)):=by
  show _=_;cases cs with
  | nil=>simp at h0
  | cons c r=>
   have di:c.1≠[]:=hc;have bq5:(O' k c.1).1<fs.length:=bh;have bb3:PJ k c.1 (c::r) 0<fs[(O' k c.1).1].1.length:=wE;unfold R8;simp only;rw [P7 di,PR bq5];simp only;rw [show (fs[(O' k c.1).1].1.getD (PJ k c.1 (c::r) 0) [])=fs[(O' k c.1).1].1[PJ k c.1 (c::r) 0] by rw [UU,PR bb3];rfl]
   rfl
 rw [HO.out];have ci6:∃nm,nm=fs[(O' k cs[0].1).1].1[PJ k cs[0].1 cs 0]:=⟨_,rfl⟩;obtain ⟨nm,fx⟩:=ci6;rw [<-fx];have br:Hid (∃(h1:(O' k cs[0].1).1<fs.length) (h2:PJ k cs[0].1 cs 0<fs[(O' k cs[0].1).1].1.length),nm=fs[(O' k cs[0].1).1].1[PJ k cs[0].1 cs 0]):=⟨bh,wE,fx⟩;clear HO fx wE bh;have HS:Hid (∀b,S b->b<w.heap.size):=hS;have HM:Hid (PP w b k):=hM;have HR:Hid (∀j (h:j<cs.length),Tz w S g (o+j*7) cs[j]):=hr;have vG:Hid (PH w S (.slice fa fs.length fc) fs):=hF;have HK:Hid (KnOk k fs):=hK;have pY:Hid (cs[0].1.length<140737488355328):=(hr 0 h0).2.2.2.1;have hA:∃A,A=(w.alloc (.cells #[.slice fa fs.length fc,.map (some b)] 69)).alloc (.cells #[.int .i64 0,.string ⟨#[]⟩,.int .i64 0,.slice none 0 0] 50)/\Below w.heap.size w A/\A.heap.size=w.heap.size+2/\A.heap[w.heap.size]? =some (.cells #[.slice fa fs.length fc,.map (some b)] 69 (0,0))/\A.heap[w.heap.size+1]? =some (.cells #[.int .i64 0,.string ⟨#[]⟩,.int .i64 0,.slice none 0 0] 50 (0,0)):=by
  refine ⟨_,rfl,((Pb _ _).alloc (P6 _) _).alloc (by simp) _,by simp,?_,?_⟩
  ·exact (Qq _ _ _ (by simp)).trans (PF w _)
  have:=PF (w.alloc (.cells #[.slice fa fs.length fc,.map (some b)] 69)) (.cells #[.int .i64 0,.string ⟨#[]⟩,.int .i64 0,.slice none 0 0] 50);simpa using this
 obtain ⟨A,hA,fX,mS,hB,hR⟩:=hA;have HA:Hid (Below w.heap.size w A/\A.heap.size=w.heap.size+2/\A.heap[w.heap.size]? =some (.cells #[.slice fa fs.length fc,.map (some b)] 69 (0,0))/\A.heap[w.heap.size+1]? =some (.cells #[.int .i64 0,.string ⟨#[]⟩,.int .i64 0,.slice none 0 0] 50 (0,0))):=⟨fX,mS,hB,hR⟩;obtain ⟨s0,q0,-⟩:=hr 0 h0;rw [Uk,TO] at q0;have q0:=(fX.cell (p:=⟨g,o,none⟩) (hS g s0)).trans q0;have j1:(0:Int)<(cs.length:Int):=by omega
 have HC:Hid (cs[0].1≠[]):=hc;have e1:cs[0].1.isEmpty=false:=by simpa using hc
 clear fX mS hB hR hM hr hS hF hK;clear hc;generalize cs[0].1=con at *
 go_enter Tryz.func82,Tryz.ntmps82
 go_upto_region 1 with fail
 rw [<-hA];clear hA;go_wp2;clear q0
 go_loopw [6,15] (λgv iv wr=>∃i:Nat,i<=cs.length/\gv= .int .i64 (PJ k con (cs.take i) 0:Nat)/\iv= .int .i64 i/\Hid (Below A.heap.size A wr)) (λ_ iv _=>cs.length-(intOf iv).toNat)
 case atStart=>exact ⟨0,by omega,by go_num,by go_num,Pb _ _⟩
 obtain ⟨i,hi,rfl,rfl,HT⟩:=hrel;have aV:Hid (Below w.heap.size w wr):=HA.out.1.trans (HT.out.mono (by have:=HA.out.2.1;omega));by_cases ag:i<cs.length
 ·obtain ⟨s0,q0,q1,fL,a,b',pa',pl',pc',ca',cl',cc',ea',el',ec',q2,q3,q4,q5,q6⟩:=HR.out i ag;have hk:=OZ.of aV.out HS.out;have q0:=(hk.cell (p:=⟨g,o+i*7,none⟩) s0).trans q0;have q1:=(hk.cell (p:=⟨g,o+i*7+1,none⟩) s0).trans q1;have q2:=(hk.cell (p:=⟨g,o+i*7+2,none⟩) s0).trans q2;have q3:=(hk.cell (p:=⟨g,o+i*7+3,none⟩) s0).trans q3;have q4:=(hk.cell (p:=⟨g,o+i*7+4,none⟩) s0).trans q4;have q5:=(hk.cell (p:=⟨g,o+i*7+5,none⟩) s0).trans q5;have q6:=(hk.cell (p:=⟨g,o+i*7+6,none⟩) s0).trans q6;have aD:∃W1,W1=wr.alloc (Obj.cells #[.string ⟨cs[i].1.toArray⟩,.int .i64 cs[i].2,.int .i64 a,.int .i64 b',.slice pa' pl' pc',.slice ca' cl' cc',.slice ea' el' ec'] 53)/\Below wr.heap.size wr W1/\W1.heap.size=wr.heap.size+1/\W1.cell? ⟨wr.heap.size,0,none⟩=some (.string ⟨cs[i].1.toArray⟩):=⟨_,rfl,(Pb _ _).alloc (P6 _) _,by simp,P0 (Qn wr _) rfl⟩;obtain ⟨W1,aD,hb1,ck,x1⟩:=aD;have kU:PP W1 b k:=HM.out.on (((hb1.block b (by have:=Mv.lt HM.out;have:=aV.out.size;omega)).trans (aV.out.block b (Mv.lt HM.out))));have hl:=kU.look1 cs[i].1 fL;unfold kV at hl;have er:=(hb1.block w.heap.size (by have:=HT.out.size;have:=HA.out.2.1;omega)).trans ((HT.out.block w.heap.size (by have:=HA.out.2.1;omega)).trans HA.out.2.2.1);have d1:=P5 er (i:=1) rfl;have aY:=Xe (O' k cs[i].1).1 (O' k cs[i].1).2.1 (O' k cs[i].1).2.2 W1;have bI:Hid (Below A.heap.size A W1):=HT.out.trans (hb1.mono HT.out.size);have bu:=rq0 k con cs i ag;have oC:=OX k con (cs.take i) 0;have lR:(cs.take i).length<=200:=by rw [RW];omega
  have i1:(0:Int)<=(i:Int):=by omega
  have i2:(i:Int)<(cs.length:Int):=by omega
  generalize PJ k con (cs.take i) 0=G at *
  have av7:IntKind.i64.wrap ((G:Int)+1)=((G+1:Nat):Int):=by rw [RV];omega
  by_cases q9:(O' k cs[i].1).2.1=G
  ·rw [Pc (.inr ⟨HC.out,q9⟩)] at bu;have bQ:Hid (PJ k con (cs.take (i+1)) 0=G+1):=bu;rw [q9] at hl aY;clear bu q9 hk hb1 oC lR kU er ck;generalize cs[i].2=num at *
   generalize (O' k cs[i].1).1=l1 at *
   generalize (O' k cs[i].1).2.2=l3 at *
   generalize cs[i].1=co3 at *
   go_upto_region 5 with fail
   rw [<-aD];clear aD q0 q1 q2 q3 q4 q5 q6;go_wp2;refine ⟨⟨i+1,ag,?_,by go_num,bI.out⟩,by simp [intOf];omega⟩;rw [bQ.out]
   rfl
  rw [P7 (by have:=HC.out;simp [q9,this])] at bu;have bQ:Hid (PJ k con (cs.take (i+1)) 0=G):=bu;have ch3:((((O' k cs[i].1).2.1:Nat):Int)==(G:Int))=false:=by
   rw [Y2];omega
  clear bu hk hb1 oC lR kU er ck;generalize cs[i].2=num at *
  generalize (O' k cs[i].1).1=l1 at *
  generalize (O' k cs[i].1).2.1=l2 at *
  generalize (O' k cs[i].1).2.2=l3 at *
  generalize cs[i].1=co3 at *
  go_upto_region 5 with fail
  rw [<-aD];clear aD q0 q1 q2 q3 q4 q5 q6;go_wp2;refine ⟨⟨i+1,ag,?_,by go_num,bI.out⟩,by simp [intOf];omega⟩;rw [bQ.out]
 obtain rfl:i=cs.length:=by omega
 rw [QM];have uH:=(HT.out.block w.heap.size (by have:=HA.out.2.1;omega)).trans HA.out.2.2.1;have d0:=P5 uH (i:=0) rfl;have d1:=P5 uH (i:=1) rfl;have EG:Hid (wr.heap[w.heap.size+1]? =some (.cells #[.int .i64 0,.string ⟨#[]⟩,.int .i64 0,.slice none 0 0] 50 (0,0))):=(HT.out.block (w.heap.size+1) (by have:=HA.out.2.1;omega)).trans HA.out.2.2.2;have HZ:Hid (w.heap.size+2<=wr.heap.size):=by
  show _<=_;have:=HT.out.size;have:=HA.out.2.1;omega
 obtain ⟨h1,h2,fx⟩:=br.out;obtain ⟨gf,of,ce5,gs,os,cp1,ad2,cp2,BX,BP,k0,k1,k2,mL⟩:∃gf of,fa=some ⟨gf,of,none⟩/\∃gs os cp1 ad2 cp2,gf<w.heap.size/\gs<w.heap.size/\w.cell? ⟨gf,of+(O' k con).1*2,none⟩=some (.slice (some ⟨gs,os,none⟩) fs[(O' k con).1].1.length cp1)/\w.cell? ⟨gf,of+(O' k con).1*2+1,none⟩=some (.slice ad2 fs[(O' k con).1].2.length cp2)/\w.cell? ⟨gs,os+PJ k con cs 0,none⟩=some (.string ⟨nm.toArray⟩)/\nm.length<140737488355328:=by
  rcases vG.out with ⟨e,_⟩ | ⟨g',o',cap',he,_,_,hj⟩
  ·rw [e] at h1;simp at h1
  obtain ⟨bm6,⟨ad,cp,hc0,qM⟩,ad',Bj,pN,_⟩:=hj _ h1;rcases qM with ⟨e,_⟩ | ⟨g2,o2,cap2,hv,_,_,eX⟩
  ·rw [e] at h2;simp at h2
  have h3:=eX _ h2;rw [R4,<-fx] at h3;injection hv with e5 _ e6;injection he with e7 _ _;subst e5 e6;exact ⟨g',o',e7,g2,o2,cp,ad',Bj,HS.out _ bm6,HS.out _ h3.1,hc0,pN,h3.2.1,h3.2.2⟩
 subst ce5;have bl7:Hid (nm.length<140737488355328):=mL;have hd:Below wr.heap.size wr wr.drew:=⟨rfl,rfl,rfl,P6 _,λ_ _=>rfl⟩;have uI:=vy1 (w:=wr.drew) (b:=b) (k:=k) gf of fs.length fc con (PQ BX aV.out.size) (HM.out.on (aV.out.block b (Mv.lt HM.out))) pY.out h1 (some ⟨gs,os,none⟩) ad2 _ cp1 _ cp2 ((aV.out.cell (p:=⟨gf,of+(O' k con).1*2,none⟩) BX).trans k0) ((aV.out.cell (p:=⟨gf,of+(O' k con).1*2+1,none⟩) BX).trans k1);have CP:∀W',Below wr.heap.size wr W'->Calls Tryz.prog 81 #[.agg #[.slice (some ⟨gf,of,none⟩) fs.length fc,.map (some b)],.string ⟨nm.toArray⟩,.int .i64 0] W' λr w'=>Below W'.heap.size W' w'/\∃v,r= .returned v/\SW w' W'.heap.size (Pr k (nm,0)) v:=λW' hb=>Jy (some ⟨gf,of,none⟩) fs.length fc (nm,0) ((HM.out.on (aV.out.block b (Mv.lt HM.out))).on (hb.block b (by have:=Mv.lt HM.out;have:=aV.out.size;omega))) bl7.out (PZ (WU HK.out nm) (by omega)) (λ_=>rfl);have HH:Hid (∀w',Below wr.heap.size wr w'->w'.cell? ⟨w.heap.size,0,none⟩=some (.slice (some ⟨gf,of,none⟩) fs.length fc)/\w'.cell? ⟨w.heap.size,1,none⟩=some (.map (some b))/\w'.cell? ⟨gs,os+PJ k con cs 0,none⟩=some (.string ⟨nm.toArray⟩)):=λw' h=>⟨(h.cell (p:=⟨w.heap.size,0,none⟩) (by have:=HZ.out;show w.heap.size<_;omega)).trans d0,(h.cell (p:=⟨w.heap.size,1,none⟩) (by have:=HZ.out;show w.heap.size<_;omega)).trans d1,(h.cell (p:=⟨gs,os+PJ k con cs 0,none⟩) (by have:=HZ.out;show gs<_;omega)).trans ((aV.out.cell (p:=⟨gs,os+PJ k con cs 0,none⟩) BP).trans k2)⟩;generalize fs[(O' k con).1]=f at *
 generalize PJ k con cs 0=G at *
 have j3:(0:Int)<=(G:Int):=by omega
 have j4:(G:Int)<(f.1.length:Int):=by omega
 have cl6:∀a b c d W',(Instr.field 48 (.agg #[.slice a f.1.length b,.slice c f.2.length d]) 0).run Tryz.prog W'= .ok (.slice a f.1.length b) W':=λa b c d W'=>Yk a b c d f.1.length f.2.length W';have cm6:gs≠w.heap.size+1:=by omega
 have an2:(gs=w.heap.size+1)=False:=by simp;omega
 clear uH h1 h2 fx d0 d1 br k0 k1 k2 mL BX;have ib:Hid (∀(W':World) (v0 v1 v2 v3:Value),W'.cell? ⟨w.heap.size,0,none⟩=some (.slice (some ⟨gf,of,none⟩) fs.length fc)/\W'.cell? ⟨w.heap.size,1,none⟩=some (.map (some b))/\W'.cell? ⟨gs,os+G,none⟩=some (.string ⟨nm.toArray⟩)->((((W'.setCell ⟨w.heap.size+1,0,none⟩ v0).setCell ⟨w.heap.size+1,1,none⟩ v1).setCell ⟨w.heap.size+1,2,none⟩ v2).setCell ⟨w.heap.size+1,3,none⟩ v3).cell? ⟨w.heap.size,0,none⟩=some (.slice (some ⟨gf,of,none⟩) fs.length fc)/\((((W'.setCell ⟨w.heap.size+1,0,none⟩ v0).setCell ⟨w.heap.size+1,1,none⟩ v1).setCell ⟨w.heap.size+1,2,none⟩ v2).setCell ⟨w.heap.size+1,3,none⟩ v3).cell? ⟨w.heap.size,1,none⟩=some (.map (some b))/\((((W'.setCell ⟨w.heap.size+1,0,none⟩ v0).setCell ⟨w.heap.size+1,1,none⟩ v1).setCell ⟨w.heap.size+1,2,none⟩ v2).setCell ⟨w.heap.size+1,3,none⟩ v3).cell? ⟨gs,os+G,none⟩=some (.string ⟨nm.toArray⟩)):=λW' v0 v1 v2 v3 h=>by
  have e:∀p:Addr,p.block≠w.heap.size+1->((((W'.setCell ⟨w.heap.size+1,0,none⟩ v0).setCell ⟨w.heap.size+1,1,none⟩ v1).setCell ⟨w.heap.size+1,2,none⟩ v2).setCell ⟨w.heap.size+1,3,none⟩ v3).cell? p=W'.cell? p:=λp hp=>Ut (by
   rw [PX _ _ _ _ hp,PX _ _ _ _ hp,PX _ _ _ _ hp,PX _ _ _ _ hp])
  exact ⟨(e ⟨w.heap.size,0,none⟩ (by simp)).trans h.1,(e ⟨w.heap.size,1,none⟩ (by simp)).trans h.2.1,(e ⟨gs,os+G,none⟩ cm6).trans h.2.2⟩
 go_upto_region 10 with fail
 go_region_held3 (λw'=>w'.cell? ⟨w.heap.size,0,none⟩=some (.slice (some ⟨gf,of,none⟩) fs.length fc)/\w'.cell? ⟨w.heap.size,1,none⟩=some (.map (some b))/\w'.cell? ⟨gs,os+G,none⟩=some (.string ⟨nm.toArray⟩)) (first | exact HH.out _ hd | assumption | exact HH.out _ oD | exact HH.out _ rn | exact ib.out _ _ _ _ _ (HH.out _ rn) | go_keep)
  (first
   | (go_at_call 96;(with_reducible refine Pe uI ?_);rintro e' w7 ⟨hb7,rfl⟩;have oD:Below wr.heap.size wr w7:=hd.trans hb7)
   | (go_at_call 81;(with_reducible refine Pe (CP _ oD) ?_);rintro e' w2 ⟨hb2,v,rfl,ad,cp,rfl,hbare⟩;have rn:Below wr.heap.size wr w2:=oD.trans (hb2.mono oD.size);have eJ:=(rn.block (w.heap.size+1) (by have:=HZ.out;omega)).trans EG.out;have s0:=P5 eJ (i:=0) rfl;have s1:=P5 eJ (i:=1) rfl;have s2:=P5 eJ (i:=2) rfl;have s3:=P5 eJ (i:=3) rfl;have z0:=Pp (o:=0) eJ;have z1:=Pp (o:=1) eJ;have z2:=Pp (o:=2) eJ;have z3:=Pp (o:=3) eJ))
 all_goals
  have hz:=HZ.out;have hz7:=oD.size;obtain ⟨U,hU,aG,aZ,EH⟩:=LS (w:=w) (w1:=w7) eJ (aV.out.trans (rn.mono aV.out.size)) (by omega) (by omega) hbare;go_wp2;rw [<-hU];have u0:=P5 aG (i:=0) rfl;have u1:=P5 aG (i:=1) rfl;have u2:=P5 aG (i:=2) rfl;have u3:=P5 aG (i:=3) rfl;refine Qv (v:= .agg #[.int .i64 (Pr k (nm,0)).1.1,.string ⟨(Pr k (nm,0)).1.2.1.toArray⟩,.int .i64 (Pr k (nm,0)).1.2.2,.slice ad (Pr k (nm,0)).2 cp]) (by simp [results,Tryz.results82,go_sem,u0,u1,u2,u3]) rfl ?_;exact ⟨aZ,_,rfl,EH⟩
end
theorem Ky {α β:Type}{step:α->Nat->β×Nat}{P:β->Prop}:∀(l:List α),(∀x∈l,∀n,P (step x n).1)->∀n,∀y∈(P9 step l n).1,P y
 | [],_,_,y,hy=>by simp [P9] at hy
 | a::r,h,n,y,hy=>by
  unfold P9 at hy;rcases Qa.1 hy with rfl | hy
  ·exact h a (by simp) n
  exact Ky r (λx hx=>h x (RI _ hx)) _ y hy
theorem vv1 (n:Nat)(lines:List (Nat×List Pt)):(Pq n lines).length<=lines.length:=XH _ _
theorem vw1 {k:Kn}{af:List Sp}{con:Qg}{path:List Nat}{c:PM}(h:c∈within k af con path):c.2.2.length<=af.length:=by
 obtain ⟨n,_,_,rfl⟩:=UH.1 h;refine PZ (vv1 n _) ?_;simp [RX]
theorem NX (k:Kn)(fs:List Pu):∀(f n:Nat) (cols:List PM) (rows:List Nat),(∀c∈cols,c.2.2.length<=200)->Sm f (Ps k fs f n cols rows).1
 | 0,_,_,_,_=>trivial
 | f+1,n,cols,rows,hc=>by
  by_cases hn:5000<=n
  ·rw [Vq _ _ _ _ _ _ hn];exact Sm.zero _
  cases rows with
  | nil=>rw [VW _ _ _ _ _ (by omega)];exact ⟨by simp,by simp,λc h=>by simp at h,λc h=>by simp at h⟩
  | cons r rows=>
   cases hi:cols.findIdx? (Rx r) with
   | none=>rw [V9 _ _ _ _ _ _ _ (by omega) hi];exact ⟨by simp,by simp,λc h=>by simp at h,λc h=>by simp at h⟩
   | some ax=>
    have ha:ax<cols.length:=(SP.1 hi).1;rw [Vz k fs f n cols r rows ax ha (by omega) hi];have hs:(PK cols[ax].2.2 (r::rows)).length<=200:=PZ (T8 _ _) (hc _ (Px ha));have bg:(Pg k (PK cols[ax].2.2 (r::rows))).length<=200:=PZ (Oe k _) hs;have h1:∀m,∀y∈(P9 (PG k fs f cols (r::rows) ax (PK cols[ax].2.2 (r::rows)) (cols[ax].1++[cols[ax].2.1])) (Pg k (PK cols[ax].2.2 (r::rows))) m).1,Sm f y:=Ky _ (λx _ m=>NX k fs f m _ _ (λc aX=>by
     rcases PE.1 aX with aX | aX
     ·rcases PE.1 aX with aX | aX
      ·exact hc c (Sa aX)
      exact PZ (vw1 aX) (PZ (T8 _ _) hs)
     exact hc c (Sn aX)))
    unfold T9;dsimp only;split
    ·exact ⟨by rw [Yi];exact PZ (Nat.min_le_left _ _) bg,by simp,λc h=>h1 _ _ (OI h).2,λc h=>by simp at h⟩
    refine ⟨by rw [Yi];exact PZ (Nat.min_le_left _ _) bg,by simp,λc h=>h1 _ _ (OI h).2,λc h=> ?_⟩;obtain rfl:=Ra.1 h;exact NX k fs f _ _ _ (λc aX=>by
     rcases PE.1 aX with aX | aX
     ·exact hc c (Sa aX)
     exact hc c (Sn aX))
theorem Vx:∀f,Py f (Qz f)=[]
 | 0=>rfl
 | _+1=>rfl
theorem K4 (k:Kn)(fs:List Pu):∀(f n:Nat) (cols:List PM) (rows:List Nat),∀r∈Py f (Ps k fs f n cols rows).1,r∈rows
 | 0,_,_,_,_,h=>by simp [Py] at h
 | f+1,n,cols,rows,q,hq=>by
  by_cases hn:5000<=n
  ·rw [Vq _ _ _ _ _ _ hn,Vx] at hq;simp at hq
  cases rows with
  | nil=>
   rw [VW _ _ _ _ _ (by omega)] at hq;simp [Py] at hq
  | cons r rows=>
   cases hi:cols.findIdx? (Rx r) with
   | none=>
    rw [V9 _ _ _ _ _ _ _ (by omega) hi] at hq;simp [Py] at hq;simp [hq]
   | some ax=>
    have ha:ax<cols.length:=(SP.1 hi).1;rw [Vz k fs f n cols r rows ax ha (by omega) hi] at hq;have h1:∀m,∀y∈(P9 (PG k fs f cols (r::rows) ax (PK cols[ax].2.2 (r::rows)) (cols[ax].1++[cols[ax].2.1])) (Pg k (PK cols[ax].2.2 (r::rows))) m).1,∀q∈Py f y,q∈r::rows:=Ky _ (λx _ m q hq=>(OB _ _).subset (K4 k fs f m _ _ q hq));have h2:∀(cs:List Cs) (l:List (Tr f)),(∀y∈l,∀q∈Py f y,q∈r::rows)->∀q∈((cs.zip l).flatMap λc=>Py f c.2),q∈r::rows:=λcs l h q hq=>by
     obtain ⟨c,hc,hq⟩:=V7.1 hq;exact h c.2 (OI hc).2 q hq
    unfold T9 at hq;dsimp only at hq;split at hq
    ·simp only [Py] at hq;rw [P7 (by decide),VP,List.flatMap_nil,SH] at hq;exact h2 _ _ (h1 _) q hq
    simp only [Py] at hq;rw [P7 (by decide),VP] at hq;rcases PE.1 hq with hq | hq
    ·exact h2 _ _ (h1 _) q hq
    rw [List.flatMap_singleton] at hq;exact (OB _ _).subset (K4 k fs f _ _ _ q hq)
def UJ (f:Nat)(t:Tr f):Prop:=∀(w:World) (S:Nat->Prop) (x:Value) (mb:Nat) (bs:List Bool),(∀b,S b->b<w.heap.size/\b≠mb)->PL w S f x t->w.heap[mb]? =some (.cells (bV bs) 4 (0,0))->(∀r∈Py f t,r<bs.length)->bs.length<=200->
 Calls Tryz.prog 46 #[x,.slice (some ⟨mb,0,none⟩) bs.length bs.length] w λr w'=>r= .returned (.tuple #[])/\Kx mb w w'/\w'.heap[mb]? =some (.cells (bV (Qf bs (Py f t))) 4 (0,0))
theorem qp0 {f:Nat}(t:Tr (f+1))(fY:t.2.1.length<=200/\t.2.2.length<=1)(hC:∀c,(c∈t.2.1.map (·.2)\/c∈t.2.2)->UJ f c):UJ (f+1) t:=by
 intro w S x mb bs hS hx aE bM hbs;obtain ⟨pa,pc,ca,cc,ea,ec,rfl,hN,eP,fz⟩:=hx;obtain ⟨_,_,ce,aK⟩:=Pd.open eP;injection ce with ce _ ch;subst ce ch;obtain ⟨_,_,cJ,ay⟩:=Pd.open fz;injection cJ with cJ _ d9;subst cJ d9;have hR:Py (f+1) t=(if t.1.1=2 then [t.1.2.1] else [])++(t.2.1.flatMap λc=>Py f c.2)++t.2.2.flatMap (Py f):=rfl;rw [hR] at bM⊢;have dl:Hid (∀i (h:i<t.2.1.length),UJ f t.2.1[i].2):=λi h=>hC _ (.inl (PI.2 ⟨_,Px h,rfl⟩));have bx:Hid (∀i (h:i<t.2.2.length),UJ f t.2.2[i]):=λi h=>hC _ (.inr (Px h));generalize t.1.1=t0 at *
 generalize t.1.2.1=t1 at *
 generalize t.1.2.2.length=pl at *
 clear hN eP fz hR hC;obtain ⟨bH,hs2⟩:=fY;generalize t.2.1=l1 at *
 generalize t.2.2=l2 at *
 have E5:Hid (t0=2->t1<bs.length):=λh=>bM t1 (by rw [Pc h];simp);have pW:Hid (∀i (h:i<l1.length),∀r∈Py f l1[i].2,r<bs.length):=λi h r hr=>bM r (PE.2 (.inl (PE.2 (.inr (V7.2 ⟨l1[i],Px h,hr⟩)))));have kA:Hid (∀i (h:i<l2.length),∀r∈Py f l2[i],r<bs.length):=λi h r hr=>bM r (PE.2 (.inr (V7.2 ⟨l2[i],Px h,hr⟩)));have ep:Hid _:=aK;have ei:Hid _:=ay;have HS:=P4 hS;obtain ⟨W,hW⟩:∃W,W=w.alloc (Obj.cells #[.int .i64 t0,.int .i64 t1,.slice pa pl pc,.slice ca l1.length cc,.slice ea l2.length ec] 30):=⟨_,rfl⟩;have an:Below w.heap.size w W:=by rw [hW];exact (Pb _ _).alloc (P6 _) _
 have gC:W.heap[w.heap.size]? =some (.cells #[.int .i64 t0,.int .i64 t1,.slice pa pl pc,.slice ca l1.length cc,.slice ea l2.length ec] 30 (0,0)):=by rw [hW];exact PF _ _
 have lO:mb<w.heap.size:=PV aE;have zA:W.heap[mb]? =some (.cells (bV bs) 4 (0,0)):=(an.block mb lO).trans aE;have HW:Hid (∀W',Kx mb W W'->OZ S w W'/\W'.cell? ⟨w.heap.size,3,none⟩=some (.slice ca l1.length cc)/\W'.cell? ⟨w.heap.size,4,none⟩=some (.slice ea l2.length ec)/\w.heap.size<W'.heap.size/\Kx mb w W'):=λW' bU=>by
  have hlt:=PV gC;have e:=(bU.block _ hlt (by omega)).trans gC;have qF:=bU.size;exact ⟨λy hy=>(bU.block y (by have:=(HS.out y hy).1;omega) (HS.out y hy).2).trans (an.block y (HS.out y hy).1),P5 e rfl,P5 e rfl,by omega,(Kx.of an).trans bU⟩
 have rj:=P4 zA;have d0:=P5 gC (i:=0) rfl;have d1:=P5 gC (i:=1) rfl;clear aK ay hS bM an zA gC aE;obtain ⟨j6,uo⟩:∃j6,j6=(if t0=2 then [t1] else ([]:List Nat)):=⟨_,rfl⟩;rw [<-uo];have BH:=P4 uo;clear uo;go_enter Tryz.func46,Tryz.ntmps46
 go_upto_region 1 with fail
 rw [<-hW];clear hW;by_cases h2:t0=2
 all_goals
  first
  | (
   subst h2;have hlt:=E5.out rfl;have y:=P5 rj.out (OC hlt);have z:=Pp (o:=t1) rj.out;have i1:(0:Int)<=(t1:Int):=by omega
   have i2:(t1:Int)<(bs.length:Int):=by omega
   obtain ⟨wm,E6⟩:∃wm,wm=W.setCell ⟨mb,t1,none⟩ (.bool true):=⟨_,rfl⟩;have mQ:Hid (Mt mb bs j6 W wm):=by
    rw [BH.out,Pc rfl,E6];refine ⟨(Kx.refl _ _).setCell _ _,?_⟩;have:=Q5 (i:=t1) (v:= .bool true) rj.out;rw [Vi] at this;exact this
   generalize bs[t1]=bb at *
   clear hlt
   go_upto_region 3 with fail
   rw [<-E6];clear E6 d0 d1 y z BH i1 i2)
  | (
   have mQ:Hid (Mt mb bs j6 W W):=by
    rw [BH.out,P7 h2];exact ⟨Kx.refl _ _,rj.out⟩
   have e2:(t0==2)=false:=by simpa using h2
   go_upto_region 3 with fail
   clear d0 d1 BH e2 h2)
 all_goals
  go_wp2
  go_loopw [4] (λiv wr=>∃i:Nat,i<=l1.length/\iv= .int .i64 i/\Hid (Mt mb bs (j6++(l1.take i).flatMap λc=>Py f c.2) W wr)) (λiv _=>l1.length-(intOf iv).toNat)
  case atStart=>exact ⟨0,by omega,by go_num,by show Mt _ _ _ _ _;have:=mQ.out;simpa using this⟩
  obtain ⟨i,hi,rfl,HT⟩:=hrel;obtain ⟨hk,d3,d4,hsz,BI⟩:=HW.out wr HT.kx;by_cases ag:i<l1.length
  ·obtain ⟨g,o,rfl,hc,hr⟩:=ep.out (λe=>by rw [e] at ag;simp at ag);obtain ⟨s0,q0,q1,_,v0,v1,v2,v3,v4,q2,q3,q4,q5,q6,ht⟩:=hr i ag;obtain ⟨a,b,pa',pl',pc',ca',cl',cc',ea',el',ec',rfl,rfl,rfl,rfl,rfl⟩:=ht.vals;have q2:=(hk.cell (p:=⟨g,o+i*7+2,none⟩) s0).trans q2;have q3:=(hk.cell (p:=⟨g,o+i*7+3,none⟩) s0).trans q3;have q4:=(hk.cell (p:=⟨g,o+i*7+4,none⟩) s0).trans q4;have q5:=(hk.cell (p:=⟨g,o+i*7+5,none⟩) s0).trans q5;have q6:=(hk.cell (p:=⟨g,o+i*7+6,none⟩) s0).trans q6;have CN:=dl.out i ag wr S _ mb (Qf bs (j6++(l1.take i).flatMap λc=>Py f c.2)) (λb hb=>⟨by have:=(HS.out b hb).1;omega,(HS.out b hb).2⟩) (PL.below hk (λ_ h=>h) f _ _ ht) HT.out.blk (λr hr=>by rw [TX];exact pW.out i ag r hr) (by rw [TX];exact hbs);rw [TX,<-OD,T5,<-NY (λc:Cs×Tr f=>Py f c.2) _ _ ag] at CN;have i1:(0:Int)<=(i:Int):=by omega
   have i2:(i:Int)<(l1.length:Int):=by omega
   clear hk hr ht d4 q0 q1
   go_wp2_with (first | (go_at_call 46;(with_reducible refine Pe CN ?_);rintro e' w2 ⟨rfl,hk2,hb2⟩))
   refine ⟨⟨i+1,ag,by go_num,HT.kx.trans hk2,hb2⟩,by simp [intOf];omega⟩
  obtain rfl:i=l1.length:=by omega
  have fW:Hid (Mt mb bs (j6++l1.flatMap λc=>Py f c.2) W wr):=by
   have:=HT.out
   rwa [QM] at this
  clear HT mQ hk d4 BI;go_wp2
  go_loopw [5] (λiv wr=>∃i:Nat,i<=l2.length/\iv= .int .i64 i/\Hid (Mt mb bs (j6++(l1.flatMap λc=>Py f c.2)++(l2.take i).flatMap (Py f)) W wr)) (λiv _=>l2.length-(intOf iv).toNat)
  case atStart=>exact ⟨0,by omega,by go_num,by show Mt _ _ _ _ _;have:=fW.out;simpa using this⟩
  obtain ⟨i,hi,rfl,HT⟩:=hrel;obtain ⟨hk,d3,d4,hsz,BI⟩:=HW.out wr HT.kx;by_cases ag:i<l2.length
  ·obtain ⟨g,o,rfl,hc,hr⟩:=ei.out (λe=>by rw [e] at ag;simp at ag);obtain ⟨s0,v0,v1,v2,v3,v4,q2,q3,q4,q5,q6,ht⟩:=hr i ag;obtain ⟨a,b,pa',pl',pc',ca',cl',cc',ea',el',ec',rfl,rfl,rfl,rfl,rfl⟩:=ht.vals;have q2:=(hk.cell (p:=⟨g,o+i*5,none⟩) s0).trans q2;have q3:=(hk.cell (p:=⟨g,o+i*5+1,none⟩) s0).trans q3;have q4:=(hk.cell (p:=⟨g,o+i*5+2,none⟩) s0).trans q4;have q5:=(hk.cell (p:=⟨g,o+i*5+3,none⟩) s0).trans q5;have q6:=(hk.cell (p:=⟨g,o+i*5+4,none⟩) s0).trans q6;have CN:=bx.out i ag wr S _ mb (Qf bs (j6++(l1.flatMap λc=>Py f c.2)++(l2.take i).flatMap (Py f))) (λb hb=>⟨by have:=(HS.out b hb).1;omega,(HS.out b hb).2⟩) (PL.below hk (λ_ h=>h) f _ _ ht) HT.out.blk (λr hr=>by rw [TX];exact kA.out i ag r hr) (by rw [TX];exact hbs);rw [TX,<-OD,T5 _ _ (Py f l2[i]),<-NY _ _ _ ag] at CN;have i1:(0:Int)<=(i:Int):=by omega
   have i2:(i:Int)<(l2.length:Int):=by omega
   clear hk hr ht d3
   go_wp2_with (first | (go_at_call 46;(with_reducible refine Pe CN ?_);rintro e' w2 ⟨rfl,hk2,hb2⟩))
   refine ⟨⟨i+1,ag,by go_num,HT.kx.trans hk2,hb2⟩,by simp [intOf];omega⟩
  obtain rfl:i=l2.length:=by omega
  have en:Hid (Mt mb bs (j6++(l1.flatMap λc=>Py f c.2)++l2.flatMap (Py f)) W wr):=by
   have:=HT.out
   rwa [QM] at this
  have E7:=P4 BI;clear hk d3 HT BI;go_wp2;refine Yq (v:= .tuple #[]) (by simp [results,Tryz.results46,go_sem]) rfl ?_;exact ⟨rfl,E7.out,en.blk⟩
theorem L4:∀(f:Nat) (t:Tr f),Sm f t->UJ f t
 | 0,t,_=>by
  intro w S x mb bs hS hx hb hl hbs;have h1:PL w S 1 x (Qz 1):=by
   have:x=_:=hx;rw [this];exact Y3 w S 1
  exact qp0 (f:=0) (Qz 1) ⟨by simp [Qz],by simp [Qz]⟩ (λc h=>by simp [Qz] at h) w S x mb bs hS h1 hb (λr hr=>by simp [Py,Qz] at hr) hbs
 | f+1,t,hs=>qp0 t ⟨hs.1,hs.2.1⟩ λc hc=>by
  rcases hc with hc | hc
  ·obtain ⟨d,hd,rfl⟩:=PI.1 hc;exact L4 f _ (hs.2.2.1 d hd)
  exact L4 f _ (hs.2.2.2 c hc)
def Tv (f:Nat)(t:Tr f):Prop:=∀(w:World) (S:Nat->Prop) (x:Value),(∀b,S b->b<w.heap.size)->PL w S f x t->Calls Tryz.prog 24 #[x] w λr w'=>r= .returned (.int .i64 (Pa f t))/\Below w.heap.size w w'
theorem Kf {f:Nat}(t:Tr (f+1))(fk:f<=5001)(fY:t.2.1.length<=200/\t.2.2.length<=1)(hC:∀c,(c∈t.2.1.map (·.2)\/c∈t.2.2)->Tv f c):Tv (f+1) t:=by
 intro w S x hS hx;obtain ⟨pa,pc,ca,cc,ea,ec,rfl,hN,eP,fz⟩:=hx;obtain ⟨_,_,ce,aK⟩:=Pd.open eP;injection ce with ce _ ch;subst ce ch;obtain ⟨_,_,cJ,ay⟩:=Pd.open fz;injection cJ with cJ _ d9;subst cJ d9;have hR:Pa (f+1) t=(t.2.2.map (Pa f)).foldl max ((t.2.1.map λc=>Pa f c.2).foldl max 0)+1:=rfl;have hb1:∀x∈(t.2.1.map λc=>Pa f c.2),x<=f+1:=λx hx=>by obtain ⟨c,_,rfl⟩:=PI.1 hx;exact Zn f c.2
 have hb2:∀x∈(t.2.2.map (Pa f)),x<=f+1:=λx hx=>by obtain ⟨c,_,rfl⟩:=PI.1 hx;exact Zn f c
 have dl:Hid (∀i (h:i<t.2.1.length),Tv f t.2.1[i].2):=λi h=>hC _ (.inl (PI.2 ⟨_,Px h,rfl⟩));have bx:Hid (∀i (h:i<t.2.2.length),Tv f t.2.2[i]):=λi h=>hC _ (.inr (Px h));rw [hR];generalize t.1.1=t0;generalize t.1.2.1=t1;generalize t.1.2.2.length=pl;clear hN eP fz hR hC;obtain ⟨bH,hs2⟩:=fY;generalize t.2.1=l1 at *
 generalize t.2.2=l2 at *
 have ep:Hid _:=aK;have ei:Hid _:=ay;have HS:=P4 hS;have bI:Hid (∀i,((l1.map λc=>Pa f c.2).take i).foldl max 0<=f+1):=λi=>UR _ _ _ (by omega) (λx hx=>hb1 x (Sa hx));have aS:Hid (∀i,((l2.map (Pa f)).take i).foldl max ((l1.map λc=>Pa f c.2).foldl max 0)<=f+1):=λi=>UR _ _ _ (UR _ _ _ (by omega) hb1) (λx hx=>hb2 x (Sa hx));clear aK ay hS hb1 hb2;obtain ⟨W,hW⟩:∃W,W=w.alloc (Obj.cells #[.int .i64 t0,.int .i64 t1,.slice pa pl pc,.slice ca l1.length cc,.slice ea l2.length ec] 30):=⟨_,rfl⟩;have an:Below w.heap.size w W:=by rw [hW];exact (Pb _ _).alloc (P6 _) _
 have gC:W.heap[w.heap.size]? =some (.cells #[.int .i64 t0,.int .i64 t1,.slice pa pl pc,.slice ca l1.length cc,.slice ea l2.length ec] 30 (0,0)):=by rw [hW];exact PF _ _
 have HW:Hid (∀W',Below W.heap.size W W'->Below w.heap.size w W'/\W'.cell? ⟨w.heap.size,3,none⟩=some (.slice ca l1.length cc)/\W'.cell? ⟨w.heap.size,4,none⟩=some (.slice ea l2.length ec)):=λW' aj=>by
  have e:=(aj.block _ (PV gC)).trans gC;exact ⟨an.trans (aj.mono an.size),P5 e rfl,P5 e rfl⟩
 clear an gC;go_enter Tryz.func24,Tryz.ntmps24;go_wp2;rw [<-hW];clear hW;have DW:=P4 fk
 go_loopw [3,4] (λmv iv wr=>∃i:Nat,i<=l1.length/\mv= .int .i64 (((l1.map λc=>Pa f c.2).take i).foldl max 0:Nat)/\iv= .int .i64 i/\Hid (Below W.heap.size W wr)) (λ_ iv _=>l1.length-(intOf iv).toNat)
 case atStart=>exact ⟨0,by omega,by go_num,by go_num,Pb _ _⟩
 obtain ⟨i,hi,rfl,rfl,HT⟩:=hrel;obtain ⟨az,d3,d4⟩:=HW.out wr HT.out;by_cases ag:i<l1.length
 ·obtain ⟨g,o,rfl,hc,hr⟩:=ep.out (λe=>by rw [e] at ag;simp at ag);obtain ⟨s0,q0,q1,_,v0,v1,v2,v3,v4,q2,q3,q4,q5,q6,ht⟩:=hr i ag;obtain ⟨a,b,pa',pl',pc',ca',cl',cc',ea',el',ec',rfl,rfl,rfl,rfl,rfl⟩:=ht.vals;have hk:=OZ.of az HS.out;have q2:=(hk.cell (p:=⟨g,o+i*7+2,none⟩) s0).trans q2;have q3:=(hk.cell (p:=⟨g,o+i*7+3,none⟩) s0).trans q3;have q4:=(hk.cell (p:=⟨g,o+i*7+4,none⟩) s0).trans q4;have q5:=(hk.cell (p:=⟨g,o+i*7+5,none⟩) s0).trans q5;have q6:=(hk.cell (p:=⟨g,o+i*7+6,none⟩) s0).trans q6;have CN:=dl.out i ag wr S _ (λb hb=>PQ (HS.out b hb) az.size) (PL.below hk (λ_ h=>h) f _ _ ht);have bu:Hid (((l1.map λc=>Pa f c.2).take (i+1)).foldl max 0=max (((l1.map λc=>Pa f c.2).take i).foldl max 0) (Pa f l1[i].2)):=by
   have:=OG (l1.map λc=>Pa f c.2) i 0 (by simpa using ag);rw [R7] at this;exact this
  have i1:(0:Int)<=(i:Int):=by omega
  have i2:(i:Int)<(l1.length:Int):=by omega
  clear hk hr ht d4 q0 q1;generalize ((l1.map λc=>Pa f c.2).take i).foldl max 0=M at *
  generalize Pa f l1[i].2=N at *
  go_wp2_with (first | (go_at_call 24;(with_reducible refine Pe CN ?_);rintro e' w2 ⟨rfl,hb2⟩))
  refine ⟨⟨i+1,ag,by rw [bu.out];congr 1;omega,by go_num,HT.out.trans (hb2.mono HT.out.size)⟩,by simp [intOf];omega⟩
 obtain rfl:i=l1.length:=by omega
 have HM:Hid (((l1.map λc=>Pa f c.2).take l1.length).foldl max 0=(l1.map λc=>Pa f c.2).foldl max 0):=by
  show _=_
  congr 1
  exact Xi (by simp)
 rw [HM.out];generalize zu:(l1.map λc=>Pa f c.2).foldl max 0=M at *
 have DX:=P4 zu;have cj6:=P4 HT.out;clear zu HT bI dl ep d4 HM;go_wp2
 go_loopw [3,6] (λmv iv gQ=>∃i:Nat,i<=l2.length/\mv= .int .i64 (((l2.map (Pa f)).take i).foldl max M:Nat)/\iv= .int .i64 i/\Hid (Below W.heap.size W gQ)) (λ_ iv _=>l2.length-(intOf iv).toNat)
 case atStart=>exact ⟨0,by omega,by go_num,by go_num,cj6.out⟩
 obtain ⟨i,hi,rfl,rfl,HT⟩:=hrel;obtain ⟨az,d3,d4⟩:=HW.out wr HT.out;by_cases ag:i<l2.length
 ·obtain ⟨g,o,rfl,hc,hr⟩:=ei.out (λe=>by rw [e] at ag;simp at ag);obtain ⟨s0,v0,v1,v2,v3,v4,q0,q1,q2,q3,q4,ht⟩:=hr i ag;obtain ⟨a,b,pa',pl',pc',ca',cl',cc',ea',el',ec',rfl,rfl,rfl,rfl,rfl⟩:=ht.vals;have hk:=OZ.of az HS.out;have q0:=(hk.cell (p:=⟨g,o+i*5,none⟩) s0).trans q0;have q1:=(hk.cell (p:=⟨g,o+i*5+1,none⟩) s0).trans q1;have q2:=(hk.cell (p:=⟨g,o+i*5+2,none⟩) s0).trans q2;have q3:=(hk.cell (p:=⟨g,o+i*5+3,none⟩) s0).trans q3;have q4:=(hk.cell (p:=⟨g,o+i*5+4,none⟩) s0).trans q4;have CN:=bx.out i ag wr S _ (λb hb=>PQ (HS.out b hb) az.size) (PL.below hk (λ_ h=>h) f _ _ ht);have bu:Hid (((l2.map (Pa f)).take (i+1)).foldl max M=max (((l2.map (Pa f)).take i).foldl max M) (Pa f l2[i])):=by
   have:=OG (l2.map (Pa f)) i M (by simpa using ag);rw [R7] at this;exact this
  have i1:(0:Int)<=(i:Int):=by omega
  have i2:(i:Int)<(l2.length:Int):=by omega
  clear hk hr ht d3;generalize ((l2.map (Pa f)).take i).foldl max M=M2 at *
  generalize Pa f l2[i]=N at *
  go_wp2_with (first | (go_at_call 24;(with_reducible refine Pe CN ?_);rintro e' w2 ⟨rfl,hb2⟩))
  refine ⟨⟨i+1,ag,by rw [bu.out];congr 1;omega,by go_num,HT.out.trans (hb2.mono HT.out.size)⟩,by simp [intOf];omega⟩
 obtain rfl:i=l2.length:=by omega
 have DY:((l2.map (Pa f)).take l2.length).foldl max M<=5002:=by have:=aS.out l2.length;have:=DW.out;omega
 have dJ:Hid (((l2.map (Pa f)).take l2.length).foldl max M=(l2.map (Pa f)).foldl max M):=by
  show _=_
  congr 1
  exact Xi (by simp)
 rw [dJ.out] at DY⊢;generalize BC:(l2.map (Pa f)).foldl max M=M2 at *
 have iS:=P4 BC;clear BC;go_wp2;go_ret;rw [DX.out,iS.out];exact ⟨rfl,az⟩
theorem Ah:∀(f:Nat),f<=5001->∀(t:Tr f),Sm f t->Tv f t
 | 0,_,t,_=>λw S x hS hx=>by
  have h1:PL w S 1 x (Qz 1):=by
   have:x=_:=hx;rw [this];exact Y3 w S 1
  exact Kf (f:=0) (Qz 1) (by omega) ⟨by simp [Qz],by simp [Qz]⟩ (λc h=>by simp [Qz] at h) w S x hS h1
 | f+1,hf,t,hs=>Kf t (by omega) ⟨hs.1,hs.2.1⟩ λc hc=>by
  rcases hc with hc | hc
  ·obtain ⟨d,hd,rfl⟩:=PI.1 hc;exact Ah f (by omega) _ (hs.2.2.1 d hd)
  exact Ah f (by omega) _ (hs.2.2.2 c hc)
