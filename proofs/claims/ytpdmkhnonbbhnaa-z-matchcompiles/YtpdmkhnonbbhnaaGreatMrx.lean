import Derived.Test.YtpdmkhnonbbhnaaGreatMix
import Derived.Test.YtpdmkhnonbbhnaaGreatMnx
import Derived.Deep.CutRange
namespace Go.Proofs.YtpdmkhnonbbhnaaGreat
open Go.RowKit Go.Maps
set_option maxHeartbeats 8000000
set_option maxRecDepth 10000
section
variable {w wr:World}{T S:Nat->Prop}{v fv mv v':Value}{g base cap n b:Nat}{k:Kn}{fs:List Pu}{af:List Sp}
theorem ah1 {m:Nat}{e:TypeId}{xs:List Value}(h:w.ownsRow base e 1 (.slice (some ⟨g,0,none⟩) n cap) n xs)(hm:m<=n):w.ownsRow base e 1 (.slice (some ⟨g,0,none⟩) m cap) m (xs.take m):=by
 obtain ⟨h1,h2⟩:=h;rcases h2 with ⟨h2,_⟩ | ⟨g',cap',cur,h2,h3,h4,h5,h6,h7,h8⟩
 ·cases h2
 injection h2 with e1 e2 e3;injection e1 with e1;injection e1 with e1;subst e1 e3;refine ⟨by rw [RW];omega,.inr ⟨g,cap,cur,rfl,h3,h4,by omega,h6,h7,?_⟩⟩;rw [<-h8,List.take_take]
 congr 1
 omega
structure Ar (w:World)(fv mv:Value)(T:Nat->Prop)(L:List (Nat×PM))(v:Value)(wr:World):Prop where
 below:Below w.heap.size w wr
 kb:wr.heap[w.heap.size]? =some (.cells #[fv,mv] 69 (0,0))
 own:wr.ownsRow (w.heap.size+1) 109 1 v L.length (L.map Q7)
 set:∀x,T x->x<wr.heap.size/\v.ownBlock≠some x
 cols:∀s∈L,QR wr T s.1 s.2
theorem Ar.lt {L:List (Nat×PM)}(h:Ar w fv mv T L v wr):w.heap.size<wr.heap.size:=PV h.kb
theorem Ar.on {L:List (Nat×PM)}{wi:World}(h:Ar w fv mv T L v wr)(hb:Below wr.heap.size wr wi):Ar w fv mv T L v wi:=by
 have hl:=h.lt;refine ⟨h.below.trans (hb.mono h.below.size),(hb.block _ hl).trans h.kb,?_,λx hx=>⟨PQ (h.set x hx).1 hb.size,(h.set x hx).2⟩,λs hs=>(h.cols s hs).on λb aj=>hb.block b (h.set b aj).1⟩;obtain ⟨h1,h2⟩:=h.own;refine ⟨h1,?_⟩;rcases h2 with h2 | ⟨g,cap,cur,h2,h3,h4,h5⟩
 ·exact .inl h2
 exact .inr ⟨g,cap,cur,h2,h3,(hb.block _ (PV h4)).trans h4,h5⟩
theorem Ar.pop {L:List (Nat×PM)}{x:Nat×PM}(h:Ar w fv mv T (L++[x]) (.slice (some ⟨g,0,none⟩) n cap) wr):Ar w fv mv T L (.slice (some ⟨g,0,none⟩) L.length cap) wr:=by
 have ho:=h.own;have hn:n=(L++[x]).length:=by
  obtain ⟨_,h2⟩:=ho;rcases h2 with ⟨h2,_⟩ | ⟨g',cap',cur,h2,_⟩
  ·cases h2
  injection h2
 subst hn;refine ⟨h.below,h.kb,?_,h.set,λs hs=>h.cols s (PE.2 (.inl hs))⟩;have:=ah1 (m:=L.length) ho (by simp);rw [R6,Nu (by simp)] at this;exact this
theorem Ar.more {L M:List (Nat×PM)}{w':World}(h:Ar w fv mv T L v wr)(T':Nat->Prop)(hT:∀x,T x->T' x)(uJ:∀x,T' x->x<wr.heap.size/\v.ownBlock≠some x)(hM:∀s∈M,QR wr T' s.1 s.2)(ho:w'.ownsRow (w.heap.size+1) 109 1 v' (L.length+M.length) (L.map Q7++M.map Q7))(hg:wr.grownBy w' v.ownBlock)(hv:v'.ownBlock=v.ownBlock\/v'.ownBlock=some wr.heap.size):Ar w fv mv T' (L++M) v' w':=by
 have hl:=h.lt;have hb:∀x,v.ownBlock=some x->w.heap.size+1<=x:=λx e=>(h.own.lt x e).1;have hk:OZ T' wr w':=λx hx=>hg.block x (uJ x hx).1 (λe=>(uJ x hx).2 e.symm);refine ⟨h.below.grown hg h.below.size (λx e=>by have:=hb x e;omega),(hg.block _ hl (λe=>by have:=hb _ e.symm;omega)).trans h.kb,?_,λx hx=>⟨PQ (uJ x hx).1 hg.size,?_⟩,λs hs=> ?_⟩
 ·rw [QP,R6];exact ho
 ·rcases hv with e | e
  ·rw [e];exact (uJ x hx).2
  rw [e];intro e2;injection e2 with e2;have:=(uJ x hx).1;omega
 rcases PE.1 hs with hs | hs
 ·exact ((h.cols s hs).up hT).on hk
 exact (hM s hs).on hk
def YK (k:Kn)(cols:List PM)(w:World)(r:Ending)(w':World):Prop:=Below w.heap.size w w'/\∃a:Bool,r= .returned (.bool a)/\(a=true↔∀c∈cols,PU k c.2.2)
theorem aj1 (cv:Value)(cols:List PM)(hS:∀b,S b->b<w.heap.size)(hc:Qw w S cv cols)(hl:cols.length<=100000)(fv mv:Value)(w0:World)(I5:Below w0.heap.size w0 w)(eh:w.heap.size=w0.heap.size+1)(fZ:w.heap[w0.heap.size]? =some (.cells #[fv,mv] 69 (0,0))):
  Calls Tryz.prog 69 #[cv] w λr w'=>∃v L,r= .returned v/\L.map (·.2)=cols/\Ar w0 fv mv S L v w':=by
 obtain ⟨L,hL,hv,hC⟩:=hc.list;have mr:L.length=cols.length:=by rw [<-hL,Qb]
 obtain ⟨i0,d7,c8,bK,bJ⟩:=info_parts Tryz.info109;have bq:∀u∈L.map Q7,u.oneCell'=true:=by
  intro u hu;obtain ⟨s,_,rfl⟩:=PI.1 hu
  rfl
 have rq:∀(v:Value) (w':World),w'.ownsRow w.heap.size 109 1 v L.length (L.map Q7)->Below w.heap.size w w'->Ar w0 fv mv S L v w':=λv w' ho hb=>by
  refine ⟨I5.trans (hb.mono (by omega)),(hb.block _ (by omega)).trans fZ,by rw [<-eh];exact ho,λx hx=>⟨PQ (hS x hx) hb.size,λe=> ?_⟩,λs hs=>(hC s hs).on (OZ.of hb hS)⟩;have h1:=(ho.lt x e).1;have h2:=hS x hx;omega
 rcases hv with ⟨h0,ad,cap,rfl⟩ | ⟨g,o,cap,rfl,h0,aM,bn⟩
 ·cases ad with
  | none=>
   refine Pe (AnyE.slices_Clone_nil Tryz.layclone 0 cap w) ?_;rintro r w' ⟨rfl,rfl⟩;have mT:L=[]:=by simpa using h0
   refine ⟨_,L,rfl,hL,rq _ _ ?_ (Pb _ _)⟩;rw [mT];exact U4 _ _ _ _
  | some a=>
   have mT:L=[]:=by simpa using h0
   have as6:(binOp .eql 72 (.slice (some a) 0 cap) (.slice none 0 0)).run Tryz.prog w= .ok (.bool false) w:=Lib.run_eql_slice_nil w _ _ (some a) 0 cap 0 0 Tryz.underlying72;have hown:=World.ownsRow_made (base:=w.heap.size) (e:=109) (size:=1) w #[] 0 (P6 _) (TD _) (by simp);have hr:=OU (t:=72) (ty:=72) Tryz.underlying72 d7 hown (some a) cap;have HE:Hid (Ar w0 fv mv S L (.slice (some ⟨w.heap.size,0,none⟩) 0 0) (w.alloc (.cells #[] 109))):=rq _ _ (by rw [mT];exact hown) ((Pb _ _).alloc (P6 _) _);clear rq hC bq hS I5 eh fZ hown h0;go_enter Tryz.func69,Tryz.ntmps69
   go_wp2_with (at_builtin;refine Lib.wpList_append_run _ rfl _ _ 72 72 rfl _ _ rfl rfl _ _ hr ?_)
   go_ret;exact ⟨_,L,rfl,hL,HE.out⟩
 have dw:∀j u,(L.map Q7)[j]? =some u->w.cell? ⟨g,o+j,none⟩=some u:=λj u hu=>by
  have hj:j<(L.map Q7).length:=(Tt.1 hu).1;have:=(bn j hj).2;rw [PR hj] at hu;rw [<-hu,<-this,R4]
 have hz:∀w:World,(Go.sizeOf 109).run Tryz.prog w= .ok 1 w:=Tryz.sizeOf109;rw [Qb];refine Pe (AnyE.slices_Clone Tryz.layclone i0 (.pointer none) 1 8 d7 c8 bK bJ rfl (by decide) hz g o L.length cap (L.map Q7) w (by simp) (by unfold maxLen;omega) (by omega) dw bq) ?_;rintro r w' ⟨v',rfl,ho,_,hb⟩;exact ⟨v',L,rfl,hL,rq _ _ ho hb⟩
theorem ak1 (fa:Option Addr)(fl fc:Nat)(hK:KnOk k fs)(ht:together k af=true){T:Nat->Prop}{Wb:World}{sv:Value}(hT:∀x,T x->x<Wb.heap.size)(hM:PP Wb b k)(hsp:Q3 Wb T sv af)(aA:af.length<=200)(au:∀s∈af,s.1<200){c:Cs}(hc:c∈Pg k af):
  Calls Tryz.prog 72 #[sv,NQ c] Wb λr w1=>∃a b',r= .returned (.tuple #[a,b'])/\Below Wb.heap.size Wb w1/\Calls Tryz.prog 73 #[.agg #[.slice fa fl fc,.map (some b)],a,.string ⟨c.1.toArray⟩,.slice none 0 0] w1 λr w2=>∃v,r= .returned v/\Below Wb.heap.size Wb w2/\Qw w2 (λx=>T x\/(Wb.heap.size<=x/\x<w2.heap.size)) v (within k (af.filter (Pk c)) c.1 []):=by
 refine Pe (qu0 sv af c hT hsp aA) ?_;rintro r w1 ⟨hb1,a,b',rfl,ha,_⟩;refine ⟨a,b',rfl,hb1,?_⟩;have co2:∀x,(T x\/(Wb.heap.size<=x/\x<w1.heap.size))->x<w1.heap.size:=λx hx=>by
  rcases hx with hx | hx
  ·have:=hT x hx;have:=hb1.size;omega
  exact hx.2
 have kU:PP w1 b k:=hM.on (hb1.block b (Mv.lt hM));refine Pe (tq0 fa fl fc a (af.filter (Pk c)) c.1 [] none 0 co2 kU ha (.inl ⟨rfl,none,0,rfl⟩) (PZ (T8 _ _) aA) (EC hK ht hsp c hc).1 (λs hs=>au s (Sq.1 hs).1) (FO hK ht hc) (by have:=WU hK c.1;omega)) ?_;rintro r w2 ⟨hb2,v,rfl,hv⟩;refine ⟨v,rfl,hb1.trans (hb2.mono hb1.size),hv.up λx hx=> ?_⟩;have:=hb2.size;have:=hb1.size;rcases hx with (hx | hx) | hx
 ·exact .inl hx
 ·exact .inr ⟨by omega,by omega⟩
 exact .inr ⟨by omega,by omega⟩
theorem VQ {L:List (Nat×PM)}(h:w.ownsRow base 109 1 v L.length (L.map Q7)):(L=[]/\∃ad cap,v= .slice ad 0 cap)\/∃L0 x g cap,L=L0++[x]/\v= .slice (some ⟨g,0,none⟩) (L0.length+1) cap/\L0.length+1<=cap/\base<=g/\g<w.heap.size/\w.cell? ⟨g,L0.length,none⟩=some (Q7 x):=by
 rcases JB L with rfl | ⟨L0,x,hL⟩
 ·refine .inl ⟨rfl,?_⟩;obtain ⟨_,⟨h2,_⟩ | ⟨g,cap,cur,h2,_⟩⟩:=h
  ·exact ⟨_,_,h2⟩
  exact ⟨_,_,h2⟩
 rw [KQ] at hL;subst hL;right;obtain ⟨g,cap,rfl,hc⟩:∃g cap,v= .slice (some ⟨g,0,none⟩) (L0.length+1) cap/\L0.length+1<=cap:=by
  obtain ⟨_,⟨_,h2⟩ | ⟨g,cap,cur,h2,_,_,h3,_⟩⟩:=h
  ·simp at h2
  exact ⟨g,cap,by simpa using h2,by simpa using h3⟩
 have hl:=h.lt g rfl;refine ⟨L0,x,g,cap,rfl,rfl,hc,hl.1,hl.2,?_⟩;have e:(L0++[x]).length=L0.length+1:=by simp
 rw [e] at h;rw [h.cellAt L0.length (by omega)];simp
theorem SG {l:List PM}(h:Qw w T v l):(l=[]/\∃ad cap,v= .slice ad 0 cap)\/(l≠[]/\∃(g o cap:Nat) (M:List (Nat×PM)),v= .slice (some ⟨g,o,none⟩) M.length cap/\M.map (·.2)=l/\0<M.length/\(∀j u,(M.map Q7)[j]? =some u->w.cell? ((⟨g,o,none⟩:Addr).add j)=some u)/\∀s∈M,QR w T s.1 s.2):=by
 obtain ⟨M,hM,hv,hC⟩:=h.list;rcases hv with ⟨h0,ad,cap,rfl⟩ | ⟨g,o,cap,rfl,h0,aM,bn⟩
 ·have:M=[]:=by simpa using h0
  refine .inl ⟨by rw [<-hM,this];rfl,ad,cap,rfl⟩
 have am:M≠[]:=by simpa using h0
 refine .inr ⟨λe=>am (by rw [e] at hM;simpa using hM),g,o,cap,M,by rw [Qb],hM,Tk.2 am,λj u hu=> ?_,hC⟩;have hj:j<(M.map Q7).length:=(Tt.1 hu).1;have:=(bn j hj).2;rw [PR hj] at hu;rw [<-hu,<-this]
 congr 1
 unfold Addr.add;split
 ·rename_i e;rw [e]
  rfl
 show (⟨g,o+j,none⟩:Addr)=⟨g,o+j*1,none⟩;rw [R4]
def R0 (k:Kn)(af:List Sp)(l:List Cs):List PM:=l.flatMap λc=>within k (af.filter (Pk c)) c.1 []
theorem sb0 (k:Kn)(af:List Sp)(l:List Cs)(i:Nat)(h:i<l.length):R0 k af (l.take (i+1))=R0 k af (l.take i)++within k (af.filter (Pk l[i])) l[i].1 []:=by
 unfold R0;rw [Zl l i h,WW];simp
structure Ai (w:World)(fv mv:Value)(k:Kn)(af:List Sp)(cs:List Cs)(w4:World)(g:Nat)(T0 T:Nat->Prop)(L0 Li:List (Nat×PM))(i:Nat)(v:Value)(wq:World):Prop where
 up:∀y,T0 y->T y
 ar:Ar w fv mv T (L0++Li) v wq
 cols:Li.map (·.2)=R0 k af (cs.take i)
 kx:Kx g w4 wq
 blk:v.ownBlock=some g\/∃g',v.ownBlock=some g'/\w4.heap.size<=g'
theorem Ai.step {cs:List Cs}{w4:World}{T0 T':Nat->Prop}{L0 Li M:List (Nat×PM)}{i:Nat}{wq w6 w7:World}(h:Ai w fv mv k af cs w4 g T0 T L0 Li i v wq)(hi:i<cs.length)(hb:Below wq.heap.size wq w6)(uJ:∀y,T' y->T y\/(wq.heap.size<=y/\y<w6.heap.size))(I6:∀y,T y->T' y)
  (hM:M.map (·.2)=within k (af.filter (Pk cs[i])) cs[i].1 []) (bc3:∀s∈M,QR w6 T' s.1 s.2) (ho:w7.ownsRow (w.heap.size+1) 109 1 v' ((L0++Li).length+M.length) ((L0++Li).map Q7++M.map Q7)) (hg:w6.grownBy w7 v.ownBlock) (hv:v'.ownBlock=v.ownBlock\/v'.ownBlock=some w6.heap.size):Ai w fv mv k af cs w4 g T0 T' L0 (Li++M) (i+1) v' w7:=by
 have h6:=h.ar.on hb;have hs4:=h.kx.size;have bl6:∀y,T' y->y<w6.heap.size/\v.ownBlock≠some y:=λy hy=>by
  rcases uJ y hy with h1 | h1
  ·exact h6.set y h1
  exact ⟨h1.2,λe=>by have:=(h.ar.own.lt y e).2;omega⟩
 have hA:=h6.more T' I6 bl6 bc3 ho hg hv;rw [T5] at hA;refine ⟨λy hy=>I6 y (h.up y hy),hA,?_,?_,?_⟩
 ·rw [R6,h.cols,hM,sb0 _ _ _ _ hi]
 ·refine ⟨hg.os.trans (hb.os.trans h.kx.os),hg.tape.trans (hb.tape.trans h.kx.tape),hg.output.trans (hb.output.trans h.kx.output),by have:=hg.size;have:=hb.size;omega,λy hy am=> ?_⟩;rw [hg.block y (by have:=hb.size;omega) ?_,hb.block y (by omega),h.kx.block y hy am];rcases h.blk with e | ⟨g',e,kq⟩
  ·rw [e];intro e2;injection e2 with e2;exact am e2
  rw [e];intro e2;injection e2 with e2;omega
 rcases hv with e | e
 ·rw [e];exact h.blk
 exact .inr ⟨_,e,by have:=hb.size;omega⟩
theorem am1 (fa:Option Addr)(fl fc:Nat)(cv:Value)(cols:List PM)(hK:KnOk k fs)(hS:∀b,S b->b<w.heap.size)(hM:PP w b k)(hc:Qw w S cv cols)(hW:∀c∈cols,Wt c)(hsz:RS cols<=100000):
  Calls Tryz.prog 52 #[.agg #[.slice fa fl fc,.map (some b)],cv] w (YK k cols w):=by
 have wu:cols.length<=100000:=PZ (FY cols λc h=>(hW c h).ne) hsz;have hA:∃A,A=w.alloc (.cells #[.slice fa fl fc,.map (some b)] 69)/\Below w.heap.size w A/\A.heap.size=w.heap.size+1/\A.heap[w.heap.size]? =some (.cells #[.slice fa fl fc,.map (some b)] 69 (0,0)):=⟨_,rfl,(Pb _ _).alloc (P6 _) _,by simp,PF w _⟩;obtain ⟨A,hA,fX,mS,kT⟩:=hA;have CC:=aj1 cv cols (λx hx=>by have:=hS x hx;omega) (hc.on (OZ.of fX hS)) wu (.slice fa fl fc) (.map (some b)) w fX mS kT;have HK:=Qh hK hM;have HI:=Qh hsz hW;obtain ⟨ck2,ccap,rfl⟩:=Pd.len hc;clear hc wu fX mS kT hW hsz hK hM;go_enter Tryz.func52,Tryz.ntmps52
 go_upto_region 1 with fail
 rw [<-hA];clear hA
 go_wp2_with (first | (go_at_call 69;(with_reducible refine Pe CC ?_);rintro e' w2 ⟨v,L,rfl,hL,oG⟩))
 have HL:=Qh hL oG;clear hL oG CC
 go_loopg [5] 100000 (λgk v5 wr=>∃(T:Nat->Prop) (L:List (Nat×PM)),Hid (Ar w (.slice fa fl fc) (.map (some b)) T L v5 wr)/\Hid (RS (L.map (·.2))<=gk/\gk<=100000/\(∀c∈L.map (·.2),Wt c)/\((∀c∈cols,PU k c.2.2)↔∀c∈L.map (·.2),PU k c.2.2)))
 case atStart=>
  have h:=HL.out;exact ⟨S,L,h.2,by rw [h.1];exact HI.out.1,P6 _,by rw [h.1];exact HI.out.2,by rw [h.1]⟩
 obtain ⟨T,L,HA,HQ⟩:=hrel;rcases VQ HA.own with ⟨mT,ad,cap,rfl⟩ | ⟨L0,x,g,cap,mT,rfl,aM,I7,dh,bn⟩
 ·go_wp2;go_ret;refine ⟨HA.below,true,rfl,?_⟩;have:=HQ.2.2.2;rw [this,mT];simp
 have oG:=HA.out;rw [mT] at oG;have hx:Wt x.2:=HQ.out.2.2.1 x.2 (by rw [mT];simp);obtain ⟨lF,_,_,⟨I8,A5,x2,hsp⟩,_⟩:=oG.cols x (by simp);have hT:∀y,T y->y<wr.heap.size:=λy hy=>(oG.set y hy).1;have A6:PP wr b k:=HK.2.on (oG.below.block b (Mv.lt HK.2));have CT:=uc1 (w:=wr) fa fl fc _ x.2.2.2 hT A6 hsp (Tk.2 hx.ne) hx.len;have k0:=P0 (i:=0) oG.kb rfl;have k1:=P0 (i:=1) oG.kb rfl;unfold Q7 at bn;have A7:=oG.pop;have HP:=Yt A7 mT hx lF hsp I7 dh;have an7:L0.length<100000:=by
  have h1:=HQ.out;have h2:=FY (L.map (·.2)) λc hc=>(h1.2.2.1 c hc).ne;rw [mT] at h2;simp at h2;rw [mT] at h1;simp at h1;omega
 clear oG hx lF hsp hT A6 A7 mT HA I7 dh;generalize hn:L0.length=n at *
 have HN:=P4 hn;clear hn;cases htb:together k x.2.2.2 with
 | false=>
  rw [htb] at CT
  go_wp2_with (first | (go_at_call 70;(with_reducible refine Pe CT ?_);rintro e' w3 ⟨rfl,hb3⟩))
  go_ret;have hp:=HP.out;refine ⟨hp.1.below.trans (hb3.mono hp.1.below.size),false,rfl,λe=>(by cases e),λh=> ?_⟩;have h2:=HQ.out.2.2.2.1 h x.2 (by rw [hp.2.1];simp);rw [((ND _ _).1 h2).1] at htb;cases htb
 | true=>
  rw [htb] at CT;have li:=P4 htb;clear htb;have gL:Hid (∀w3,Below wr.heap.size wr w3->Calls Tryz.prog 71 #[.agg #[.slice fa fl fc,.map (some b)],.slice I8 x.2.2.2.length A5] w3 λr w'=>∃blk ccap cur,r= .returned (.slice (some ⟨blk,0,none⟩) (Pg k x.2.2.2).length ccap)/\(Pg k x.2.2.2).length<=ccap/\Below wr.heap.size wr w'/\wr.heap.size<=blk/\blk<w'.heap.size/\w'.heap[blk]? =some (.cells cur 53 (0,0))/\∀j (h:j<(Pg k x.2.2.2).length) i,i<7->cur[j*7+i]? =(ST (Pg k x.2.2.2)[j])[i]?):=λw3 hb3=>by
   have hp:=HP.out;refine Pe (Ml (w:=w3) fa fl fc _ x.2.2.2 (S:=T) (λy hy=>by have:=(hp.1.set y hy).1;have:=hb3.size;omega) ((HK.2.on (hp.1.below.block b (Mv.lt HK.2))).on (hb3.block b (by have:=Mv.lt HK.2;have:=hp.1.below.size;omega))) (hp.2.2.2.2.1.on (OZ.of hb3 λy hy=>(hp.1.set y hy).1)) hp.2.2.1.len (Uf HK.1 li.out)) ?_;rintro r w' ⟨hb,v,rfl,blk,ccap,cur,rfl,h1,h2,h3,h4⟩;have:=hb3.size;exact ⟨blk,ccap,cur,rfl,h1,hb3.trans (hb.mono hb3.size),by omega,h2.2,h3,h4.2⟩
  go_upto_region 8 with (first | (go_at_call 70;(with_reducible refine Pe CT ?_);rintro e' w3 ⟨rfl,hb3⟩))
  have CS:=gL.out w3 hb3;have k0:=(hb3.cell (p:=⟨w.heap.size,0,none⟩) HP.1.lt).trans k0;have k1:=(hb3.cell (p:=⟨w.heap.size,1,none⟩) HP.1.lt).trans k1
  go_wp2_with (first | (go_at_call 71;(with_reducible refine Pe CS ?_);rintro e' w4 ⟨blk,ccap,cur,rfl,hcc,hb4,hbl1,hbl2,aE,aT⟩))
  have cZ:=Ng hb4 hbl1 hbl2 aE aT;have ib:Hid (Ai w (.slice fa fl fc) (.map (some b)) k x.2.2.2 (Pg k x.2.2.2) w4 g T T L0 [] 0 (.slice (some ⟨g,0,none⟩) n cap) w4):=by
   refine ⟨λ_ h=>h,?_,rfl,Kx.refl _ _,.inl rfl⟩;have:=HP.1.on hb4;simpa using this
  have ik:Hid (∀i,n+(R0 k x.2.2.2 ((Pg k x.2.2.2).take i)).length<=100000/\∀c∈R0 k x.2.2.2 ((Pg k x.2.2.2).take i),Wt c):=λi=>by
   have hq:=HQ.out;rw [HP.out.2.1,R6,ZA] at hq;have h1:=EM HK.1 li.out;have h2:R0 k x.2.2.2 (Pg k x.2.2.2)=R0 k x.2.2.2 ((Pg k x.2.2.2).take i)++R0 k x.2.2.2 ((Pg k x.2.2.2).drop i):=by
    unfold R0;rw [<-WW,Ug]
   have h3:RS (R0 k x.2.2.2 (Pg k x.2.2.2))<=SK x.2.2.2:=by unfold R0;omega
   rw [h2,ZA] at h3;have h4:∀c∈R0 k x.2.2.2 ((Pg k x.2.2.2).take i),Wt c:=λc hc=>by
    obtain ⟨d,_,hd⟩:=V7.1 hc;exact HP.2.2.1.within c hd
   have h5:=FY (L0.map (·.2)++R0 k x.2.2.2 ((Pg k x.2.2.2).take i)) (λc hc=>by
    rcases PE.1 hc with hc | hc
    ·exact (hq.2.2.1 c (PE.2 (.inl hc))).ne
    exact (h4 c hc).ne)
   rw [ZA,QP,Qb,HN.out] at h5;have h6:RS ([x].map (·.2))=SK x.2.2.2:=by simp [RS]
   exact ⟨by omega,h4⟩
  obtain ⟨i0,d7,c8,bK,bJ⟩:=info_parts Tryz.info109;have bg:(Pg k x.2.2.2).length<=200:=PZ (Oe k _) HP.2.2.1.len;clear hb4 hbl1 hbl2 aE aT CS CT gL hb3 bn x2 k0 k1 aM;clear k0 k1;obtain ⟨wz,I9⟩:∃wz,wz=wr:=⟨_,rfl⟩;rw [<-I9] at HP cZ;clear I9;generalize qZ:Pg k x.2.2.2=cs at *
  have iW:=P4 qZ;clear qZ
  go_loopw [5,38] (λv5 iv wq=>∃(i:Nat) (T':Nat->Prop) (Li:List (Nat×PM)),i<=cs.length/\iv= .int .i64 i/\Hid (Ai w (.slice fa fl fc) (.map (some b)) k x.2.2.2 cs w4 g T T' L0 Li i v5 wq)) (λ_ iv _=>cs.length-(intOf iv).toNat)
  case atStart=>exact ⟨0,T,[],by omega,by go_num,ib.out⟩
  obtain ⟨i,T',Li,hi,rfl,lj⟩:=hrel;by_cases ag:i<cs.length
  ·have oH:=lj.out;have hp:=HP.out;have hb4:=cZ.out;have qF:OZ T wz wr:=λy hy=>by
    have:=(hp.1.set y hy);have am:y≠g:=λe=>this.2 (by rw [e];rfl);rw [oH.kx.block y (by have:=hb4.1.size;omega) am];exact hb4.1.block y this.1
   have aE:wr.heap[blk]? =some (.cells cur 53 (0,0)):=(oH.kx.block blk hb4.2.2.1 (by have:=hp.2.2.2.2.2.2;have:=hb4.2.1;omega)).trans hb4.2.2.2.1;have aT:=hb4.2.2.2.2 i ag;have q0:wr.cell? ⟨blk,i*7,none⟩=some (.string ⟨cs[i].1.toArray⟩):=P0 aE (aT 0 (by omega));have q1:=P0 aE (aT 1 (by omega));have q2:=P0 aE (aT 2 (by omega));have q3:=P0 aE (aT 3 (by omega));have q4:=P0 aE (aT 4 (by omega));have q5:=P0 aE (aT 5 (by omega));have q6:=P0 aE (aT 6 (by omega));have gC:∃Wb,Wb=wr.alloc (Obj.cells #[.string ⟨cs[i].1.toArray⟩,.int .i64 cs[i].2,.int .i64 0,.int .i64 0,.slice none 0 0,.slice none 0 0,.slice none 0 0] 53)/\Below wr.heap.size wr Wb/\Wb.heap.size=wr.heap.size+1/\Wb.heap[wr.heap.size]? =some (.cells #[.string ⟨cs[i].1.toArray⟩,.int .i64 cs[i].2,.int .i64 0,.int .i64 0,.slice none 0 0,.slice none 0 0,.slice none 0 0] 53 (0,0)):=⟨_,rfl,(Pb _ _).alloc (P6 _) _,by simp,Qn wr _⟩;obtain ⟨Wb,gC,eN,D5,ji⟩:=gC;have A6:PP Wb b k:=(HK.2.on (oH.ar.below.block b (Mv.lt HK.2))).on (eN.block b (by have:=Mv.lt HK.2;have:=oH.ar.below.size;omega));have CF:=ak1 (Wb:=Wb) (T:=T') (sv:= .slice I8 x.2.2.2.length A5) fa fl fc HK.out.1 li.out (λy hy=>by have:=(oH.ar.set y hy).1;omega) A6 (((hp.2.2.2.2.1.on qF).up oH.up).on (OZ.of eN λy hy=>(oH.ar.set y hy).1)) hp.2.2.1.len hp.2.2.1.rows (c:=cs[i]) (by rw [iW.out];exact Px ag);have d0:=P0 (i:=0) ji rfl;have d1:=P0 (i:=1) ji rfl;have d2:=P0 (i:=2) ji rfl;have d3:=P0 (i:=3) ji rfl;have d4:=P0 (i:=4) ji rfl;have d5:=P0 (i:=5) ji rfl;have d6:=P0 (i:=6) ji rfl;have dm:=Ro eN D5 ji;have i1:(0:Int)<=(i:Int):=by omega
   have i2:(i:Int)<(cs.length:Int):=by omega
   have fZ:=(eN.block _ oH.ar.lt).trans oH.ar.kb;have ld:Hid (Wb.heap[w.heap.size]? =some (.cells #[.slice fa fl fc,.map (some b)] 69 (0,0))/\w.heap.size<wr.heap.size):=⟨fZ,oH.ar.lt⟩;unfold NQ at CF;clear oH hp hb4 qF aE aT eN D5 ji A6 fZ
   go_upto_region 11 with fail
   rw [<-gC];clear gC q0 q1 q2 q3 q4 q5 q6
   go_upto_region 12 with (first | (go_at_call 72;(with_reducible refine Pe CF ?_);rintro e' w5 ⟨a5,b5',rfl,hb5,CW⟩))
   clear d0 d1 d2 d3 d4 d5 d6;have d0:=(hb5.cell (p:=⟨wr.heap.size,0,none⟩) (by have:=dm.2.1;show wr.heap.size<_;omega)).trans (P0 (i:=0) dm.2.2 rfl);have k0:=(hb5.cell (p:=⟨w.heap.size,0,none⟩) (by have:=dm.2.1;have:=ld.2;show w.heap.size<_;omega)).trans (P0 (i:=0) ld.1 rfl);have k1:=(hb5.cell (p:=⟨w.heap.size,1,none⟩) (by have:=dm.2.1;have:=ld.2;show w.heap.size<_;omega)).trans (P0 (i:=1) ld.1 rfl);have HF:Hid (∀w6,Below Wb.heap.size Wb w6->Below wr.heap.size wr w6):=λw6 h=>dm.1.trans (h.mono dm.1.size);have em:Hid (((L0++Li).length+(within k (x.2.2.2.filter (Pk cs[i])) cs[i].1 []).length)<=100000):=by
    have h1:=(ik.out (i+1)).1;have h2:=lj.cols;rw [sb0 _ _ _ _ ag,QP] at h1;have h3:=congrArg List.length h2;rw [Qb] at h3;have h4:=HN.out;show _<=_;rw [QP];omega
   by_cases A8:within k (x.2.2.2.filter (Pk cs[i])) cs[i].1 []=[]
   ·have EO:Calls Tryz.prog 73 #[.agg #[.slice fa fl fc,.map (some b)],a5,.string ⟨cs[i].1.toArray⟩,.slice none 0 0] w5 λr w6=>∃ad c6,r= .returned (.slice ad 0 c6)/\Below Wb.heap.size Wb w6:=Pe CW (λr w6 h=>by
     obtain ⟨v6,rfl,hb6,hv6⟩:=h;rcases SG hv6 with ⟨_,ad,c6,rfl⟩ | ⟨am,_⟩
     ·exact ⟨ad,c6,rfl,hb6⟩
     exact absurd A8 am)
    have ci3:=P4 A8;clear CW CF A8
    go_wp2_with (first | (go_at_call 73;(with_reducible refine Pe EO ?_);rintro e' w6 ⟨qe,c6,rfl,hb6⟩;have js:=(lj.ar.on (HF.out w6 hb6)).own;have Ia:=OU (t:=72) (ty:=72) Tryz.underlying72 d7 js qe c6) | (at_builtin;refine Lib.wpList_append_run _ rfl _ _ 72 72 rfl _ _ rfl rfl _ _ Ia ?_))
    have HE:Hid (Ai w (.slice fa fl fc) (.map (some b)) k x.2.2.2 cs w4 g T T' L0 (Li++[]) (i+1) u5 w6):=lj.out.step ag (HF.out w6 hb6) (λy hy=> .inl hy) (λy hy=>hy) (by rw [ci3.out];rfl) (λs hs=>by simp at hs) (by simpa using js) ⟨rfl,rfl,rfl,P6 _,λ_ _ _=>rfl⟩ (.inl rfl);clear js Ia hb6
    go_roundw
    case rel=>exact ⟨i+1,T',_,ag,by go_num,HE.out⟩
    case measure=>simp [intOf];omega
   have EO:Calls Tryz.prog 73 #[.agg #[.slice fa fl fc,.map (some b)],a5,.string ⟨cs[i].1.toArray⟩,.slice none 0 0] w5 λr w6=>∃(g6 o6 c6:Nat) (M:List (Nat×PM)),r= .returned (.slice (some ⟨g6,o6,none⟩) M.length c6)/\Below Wb.heap.size Wb w6/\M.map (·.2)=within k (x.2.2.2.filter (Pk cs[i])) cs[i].1 []/\0<M.length/\(∀j u,(M.map Q7)[j]? =some u->w6.cell? ((⟨g6,o6,none⟩:Addr).add j)=some u)/\∀s∈M,QR w6 (λx=>T' x\/(Wb.heap.size<=x/\x<w6.heap.size)) s.1 s.2:=Pe CW (λr w6 h=>by
    obtain ⟨v6,rfl,hb6,hv6⟩:=h;rcases SG hv6 with ⟨he,_⟩ | ⟨_,g6,o6,c6,M,rfl,h1,h2,h3,h4⟩
    ·exact absurd he A8
    exact ⟨g6,o6,c6,M,rfl,hb6,h1,h2,h3,h4⟩)
   clear CW CF A8;have nI:Hid (∀M:List (Nat×PM),∀u∈M.map Q7,u.oneCell'=true):=λM u hu=>by
    obtain ⟨s,_,rfl⟩:=PI.1 hu
    rfl
   have DZ:Hid (∀M:List (Nat×PM),M.map (·.2)=within k (x.2.2.2.filter (Pk cs[i])) cs[i].1 []->(L0++Li).length+M.length<=100000):=λM hM=>by
    have h1:=em.out;rw [<-hM,Qb] at h1;exact h1
   go_wp2_with (first | (go_at_call 73;(with_reducible refine Pe EO ?_);rintro e' w6 ⟨g6,o6,c6,M,rfl,hb6,kU,hM2,hM3,hM4⟩;have js:=(lj.out.ar.on (HF.out w6 hb6)).own;have aq4:=DZ.out M kU;have A9:w.heap.size+1<=w6.heap.size:=(lj.out.ar.on (HF.out w6 hb6)).lt) | (at_builtin;refine wpList_append_lies _ rfl _ _ 72 rfl (w.heap.size+1) 109 i0 _ 1 8 Tryz.underlying72 d7 c8 bK bJ rfl (by decide) _ _ _ rfl js ⟨g6,o6,none⟩ M.length c6 (M.map Q7) rfl (by rw [Qb,R4]) hM3 (nI.out M) hM2 (by unfold maxLen;omega) (by omega) A9 w6.heap.size rfl ?_;intro g7 gh w7 dO dG gW nh))
   have tx:w6.grownBy w7 u5.ownBlock:=dG;have tz:u5.ownBlock=some g7\/g7=w6.heap.size:=gW;have HE:=lj.out.step ag (HF.out w6 hb6) (T':=λx=>T' x\/(Wb.heap.size<=x/\x<w6.heap.size)) (λy hy=>hy.imp_right λe=>⟨by have:=dm.out.2.1;omega,e.2⟩) (λy hy=> .inl hy) kU hM4 dO tx (tz.imp (λe=>e.symm) (λe=>by rw [e];rfl));rw [QP] at HE;exact ⟨⟨i+1,_,_,ag,by go_num,HE⟩,by simp [intOf];omega⟩
  obtain rfl:i=cs.length:=by omega
  have hA:=lj.ar;have bg:=lj.cols;rw [QM,<-iW.out] at bg;have hq:=HQ.out;have hp:=HP.out;have hcz:=EM HK.1 li.out;rw [P7 hp.2.2.1.ne] at hcz;have e1:RS (L.map (·.2))=RS (L0.map (·.2))+SK x.2.2.2:=by rw [hp.2.1];simp [RS]
  have e2:RS ((L0++Li).map (·.2))=RS (L0.map (·.2))+RS (R0 k x.2.2.2 (Pg k x.2.2.2)):=by rw [R6,ZA,bg]
  have HM:Hid (RS ((L0++Li).map (·.2))<gk):=by
   show _<_;have:RS (R0 k x.2.2.2 (Pg k x.2.2.2))+1<=SK x.2.2.2:=hcz;omega
  have ei:Hid (RS ((L0++Li).map (·.2))<=100000/\(∀c∈(L0++Li).map (·.2),Wt c)/\((∀c∈cols,PU k c.2.2)↔∀c∈(L0++Li).map (·.2),PU k c.2.2)):=by
   refine ⟨by have:=HM.out;omega,λc hc=> ?_,?_⟩
   ·rw [R6,bg] at hc;rcases PE.1 hc with hc | hc
    ·exact hq.2.2.1 c (by rw [hp.2.1,R6];exact PE.2 (.inl hc))
    obtain ⟨d,_,hd⟩:=V7.1 hc;exact hp.2.2.1.within c hd
   rw [hq.2.2.2,hp.2.1,R6,R6,bg];have hR:=ND k x.2.2.2;constructor
   ·intro h c hc;rcases PE.1 hc with hc | hc
    ·exact h c (PE.2 (.inl hc))
    obtain ⟨d,sK,hd⟩:=V7.1 hc;exact (hR.1 (h x.2 (by simp))).2 d sK c hd
   intro h c hc;rcases PE.1 hc with hc | hc
   ·exact h c (PE.2 (.inl hc))
   obtain rfl:c=x.2:=by simpa using hc
   exact hR.2 ⟨li.out,λd hd col bA=>h col (PE.2 (.inr (V7.2 ⟨d,hd,bA⟩)))⟩
  have xr:=P4 hA;clear hA bg hq hp hcz e1 e2;go_wp2
  go_roundg (RS ((L0++Li).map (·.2)))
  case measure=>exact HM.out
  case rel=>exact ⟨T',L0++Li,xr.out,P6 _,ei.out⟩
end
section
variable {w W wr:World}{g o n i:Nat}{cur:Array Value}{rows:List (List Pt)}{S:Nat->Prop}
def Qy (rows:List (List Pt)):List (Nat×List Pt):=(List.range rows.length).zip rows
theorem WT (rows:List (List Pt)):(Qy rows).length=rows.length:=by simp [Qy]
theorem FV (rows:List (List Pt))(j:Nat)(h:j<(Qy rows).length):(Qy rows)[j]=(j,rows[j]'(by rw [WT] at h;exact h)):=by
 simp [Qy]
theorem Nx (rows:List (List Pt)):(Qy rows).map (·.1)=List.range rows.length:=by
 unfold Qy;rw [D2];simp
theorem Lx (rows:List (List Pt)):(Qy rows).map (·.2)=rows:=by
 unfold Qy;rw [List.map_snd_zip];simp
theorem an1 (hl:rows.length<=200){ai:List Nat}{aH:Nat}:∀c∈QA ai aH (Qy rows),Wt c:=λc hc=>by
 obtain ⟨n,_,am,rfl⟩:=UH.1 hc;obtain ⟨h1,h2⟩:=x8 (n:=n) (Qy rows);rw [Nx] at h1;refine ⟨am,Dp.sublist h1,λs hs=> ?_⟩;have:=h1.subset (PI.2 ⟨s,hs,rfl⟩);rw [T2] at this;omega
theorem ap1 (rows:List (List Pt))(ai:List Nat)(aH:Nat):RS (QA ai aH (Qy rows))<=(rows.map Q6).sum:=by
 refine PZ (D' _ _ _) (PZ (Cp _ _) ?_);have:((Qy rows).map λx=>Q6 x.2)=(((Qy rows).map (·.2)).map Q6):=by rw [TL];rfl
 rw [this,Lx];exact P6 _
structure Lr (w:World)(g o:Nat)(n:Nat)(Lb:Nat)(W:World)(i:Nat)(cur:Array Value)(wr:World):Prop where
 below:Below Lb W wr
 blk:wr.heap[Lb]? =some (.cells cur 104 (0,0))
 size:cur.size=n*2
 row:∀j,j<n->j<i->cur[j*2]? =some (.int .i64 j)/\cur[j*2+1]? =w.cell? ⟨g,o+j,none⟩
theorem Lr.lt {Lb:Nat}(h:Lr w g o n Lb W i cur wr):Lb<wr.heap.size:=PV h.blk
theorem Lr.put {Lb:Nat}(h:Lr w g o n Lb W i cur wr)(hi:i<n){v:Value}(hv:w.cell? ⟨g,o+i,none⟩=some v):
  Lr w g o n Lb W (i+1) ((cur.setIfInBounds (i*2) (.int .i64 i)).setIfInBounds (i*2+1) v) ((wr.setCell ⟨Lb,i*2,none⟩ (.int .i64 i)).setCell ⟨Lb,i*2+1,none⟩ v):=by
 have hs:=h.size;refine ⟨(h.below.setCell (p:=⟨Lb,i*2,none⟩) (P6 _) _).setCell (p:=⟨Lb,i*2+1,none⟩) (P6 _) _,Q5 (Q5 h.blk),by simpa using hs,λj hj bZ=> ?_⟩;by_cases e:j=i
 ·subst e;refine ⟨?_,?_⟩
  ·rw [Q9,P7 (by omega),Q9,Pc rfl,Pc (by omega)]
  rw [Q9,Pc rfl,Pc (by simp;omega),hv]
 obtain ⟨r0,r1⟩:=h.row j hj (by omega);refine ⟨?_,?_⟩
 ·rw [Q9,P7 (by omega),Q9,P7 (by omega),r0]
 rw [Q9,P7 (by omega),Q9,P7 (by omega),r1]
theorem Lr.lines {Lb:Nat}(h:Lr w g o rows.length Lb W rows.length cur wr)(am:rows≠[])(hk:OZ S w wr)(hr:∀j (h:j<rows.length),S g/\∃ad cap,w.cell? ⟨g,o+j,none⟩=some (.slice ad rows[j].length cap)/\Pl w S (.slice ad rows[j].length cap) rows[j]):UZ wr (λb=>S b\/b=Lb) (.slice (some ⟨Lb,0,none⟩) rows.length rows.length) (Qy rows):=by
 refine .inr ⟨Lb,0,rows.length,by rw [WT],λe=>am (by have:=congrArg List.length e;rw [WT] at this;simpa using this),by rw [WT];exact P6 _,λj hj=> ?_⟩;have aJ:j<rows.length:=by rw [WT] at hj;exact hj
 obtain ⟨r0,r1⟩:=h.row j aJ aJ;obtain ⟨s0,ad,cap,c0,hp⟩:=hr j aJ;rw [FV rows j hj];refine ⟨.inr rfl,P0 h.blk (by simpa using r0),ad,cap,P0 h.blk ?_,(hp.on hk).up λb hb=> .inl hb⟩;have e:0+j*2+1=j*2+1:=by omega
 rw [e,r1,c0]
def Wy (k:Kn)(S:Nat->Prop)(rows:List (List Pt))(w:World)(r:Ending)(w':World):Prop:=Below w.heap.size w w'/\
 (((∃x∈rows,x.length≠(rows.headD []).length)/\r= .returned (.tuple #[.slice none 0 0,.bool false]))\/
   ((∀x∈rows,x.length=(rows.headD []).length)/\∃v a,r= .returned (.tuple #[v,.bool a])/\Qw w' (λb=>S b\/(w.heap.size<=b/\b<w'.heap.size)) v (QA [] (rows.headD []).length (Qy rows))/\(a=true↔∀c∈QA [] (rows.headD []).length (Qy rows),PU k c.2.2)))
theorem Xn (n m:Nat):((n:Int) !=m)=decide (n≠m):=by
 by_cases h:n=m
 ·subst h;simp
 have:(n:Int)≠m:=by omega
 simp [h,this]
theorem aq1 {b:Nat}{k:Kn}{fs:List Pu}(fa:Option Addr)(fl fc:Nat)(rv:Value)(rows:List (List Pt))(hK:KnOk k fs)(hS:∀b,S b->b<w.heap.size)(hM:PP w b k)(hR:RH w S rv rows)(hl:rows.length<=200)(cj:∀r∈rows,r.length<=16)(hsz:(rows.map Q6).sum<=100000):
  Calls Tryz.prog 28 #[.agg #[.slice fa fl fc,.map (some b)],rv] w (Wy k S rows w):=by
 have hW:∃W,W=w.alloc (Obj.cells #[.slice fa fl fc,.map (some b)] 69)/\Below w.heap.size w W/\W.heap.size=w.heap.size+1/\W.heap[w.heap.size]? =some (.cells #[.slice fa fl fc,.map (some b)] 69 (0,0)):=⟨_,rfl,(Pb _ _).alloc (P6 _) _,by simp,Qn w _⟩;obtain ⟨W,hW,an,aO,fZ⟩:=hW;have dD:=Ro an aO fZ;have HM:=Qh hM hK;have HS:=P4 hS;have mz:=P4 hsz;rcases hR with ⟨h0,ad,cap,rfl⟩ | ⟨g,o,cap,rfl,h0,aM,hr⟩
 ·subst h0;clear cj hsz hS hM hK an aO fZ;go_enter Tryz.func28,Tryz.ntmps28
  go_upto_region 1 with fail
  rw [<-hW];clear hW;go_wp2;refine Qv (v:= .tuple #[.slice none 0 0,.bool true]) (by simp [results,Tryz.results28,go_sem]) rfl ?_;refine ⟨dD.1,.inr ⟨λx hx=>(by simp at hx),_,true,rfl,.inl ⟨rfl,none,0,rfl⟩,λ_ c hc=> ?_,λ_=>rfl⟩⟩;simp [Qy,QA] at hc
 have hr:∀j (h:j<rows.length),S g/\∃ad cap,w.cell? ⟨g,o+j,none⟩=some (.slice ad rows[j].length cap)/\Pl w S (.slice ad rows[j].length cap) rows[j]:=λj h=>by
  have:=hr j h;rw [R4] at this;exact this
 have cT:0<rows.length:=Tk.2 h0;obtain ⟨s0,aq5,yJ,c0,_⟩:=hr 0 cT;have rr:rows.headD []=rows[0]:=by
  cases rows with
  | nil=>simp at cT
  | cons a r=>rfl
 have HR:=P4 hr;have kA:=P4 cj;have Aa:Hid ((rows.headD []).length=rows[0].length/\rows≠[]):=⟨by rw [rr],h0⟩;have c0:=(an.cell (p:=⟨g,o,none⟩) (hS g s0)).trans c0;obtain ⟨cz,fp,hcz⟩:=KW W rows.length (by omega);rw [aO] at fp;have HX:Hid (Lr w g o rows.length (w.heap.size+1) (W.alloc (.cells cz 104)) 0 cz (W.alloc (.cells cz 104))):=⟨Pb _ _,by have:=PF W (.cells cz 104);rwa [aO] at this,hcz,λj _ h=>by omega⟩;have jd:Hid (Below (w.heap.size+1) W (W.alloc (.cells cz 104))):=by
  have:=(Pb W.heap.size W).alloc (P6 _) (.cells cz 104)
  rwa [aO] at this
 have bz5:((rows.length:Int)==0)=false:=Y2.2 (by omega);have al3:(0:Int)<rows.length:=by omega
 generalize eM:W.alloc (.cells cz 104)=W2 at *
 clear eM hr cj hsz hS hM hK an aO fZ hcz rr h0;generalize dR:rows[0].length=wd at *
 clear dR;go_enter Tryz.func28,Tryz.ntmps28
 go_upto_region 1 with fail
 rw [<-hW];clear hW;go_wp2;clear c0 fp bz5
 go_loopw [23] (λiv wr=>∃(i:Nat) (cur:Array Value),i<=rows.length/\iv= .int .i64 i/\Hid (Lr w g o rows.length (w.heap.size+1) W2 i cur wr)/\Hid (∀j (h:j<rows.length),j<i->rows[j].length=wd)) (λiv _=>rows.length-(intOf iv).toNat)
 case atStart=>exact ⟨0,cz,by omega,by go_num,HX.out,λj _ h=>by omega⟩
 obtain ⟨i,cur,hi,rfl,HT,HW⟩:=hrel;have HB:=P4 (jd.trans HT.below);have aV:=P4 (dD.1.trans (HB.mono (by have:=dD.2.1;omega)));by_cases ag:i<rows.length
 ·obtain ⟨s0,ad,ci,q,_⟩:=HR.out i ag;have HV:=P4 q;have q:=(aV.cell (p:=⟨g,o+i,none⟩) (HS.out g s0)).trans q;have i1:(0:Int)<=(i:Int):=by omega
  have i2:(i:Int)<(rows.length:Int):=by omega
  have EP:=Xn rows[i].length wd;by_cases hw:rows[i].length=wd
  ·have aT:=HT.size;have y0:=P0 HT.blk (Rm (show i*2<cur.size by omega));have y1:=P0 HT.blk (Rm (show i*2+1<cur.size by omega));have z0:=Pp (o:=i*2) HT.blk;have z1:=Pp (o:=i*2+1) HT.blk;have t8:Hid (∀j (h:j<rows.length),j<i+1->rows[j].length=wd):=λj h hj=>by
    by_cases e:j=i
    ·subst e;exact hw
    exact HW.out j h (by omega)
   rw [hw] at EP HV q;rw [Ti (by simp)] at EP;generalize cur[i*2]=Do at y0;generalize cur[i*2+1]=GR at y1;clear hw;go_wp2;exact ⟨⟨i+1,_,ag,by go_num,HT.put ag HV.out,t8.out⟩,by simp [intOf];omega⟩
  rw [T7 hw] at EP;have HE:Hid (∃x∈rows,x.length≠(rows.headD []).length):=⟨rows[i],Px ag,by rw [Aa.out.1];exact hw⟩;clear hw;go_wp2;refine Qv (v:= .tuple #[.slice none 0 0,.bool false]) (by simp [results,Tryz.results28,go_sem]) rfl ?_;exact ⟨aV.out,.inl ⟨HE.out,rfl⟩⟩
 obtain rfl:i=rows.length:=by omega
 have hk:OZ S w wr:=OZ.of aV.out HS.out;have Ab:=HT.lines Aa.2 hk HR.out;have hlt:=HT.lt;have pF:Hid (∀x∈rows,x.length=wd):=λx hx=>by
  obtain ⟨j,hj,rfl⟩:=RO hx;exact HW.out j hj hj
 have bk7:wd<=16:=by
  have h1:=pF.out rows[0] (Px cT);have h2:=kA.out rows[0] (Px cT);omega
 have CC:=LM (λb=>S b\/b=w.heap.size+1) [] none 0 wd (Qy rows) (.slice (some ⟨w.heap.size+1,0,none⟩) rows.length rows.length) wr (λb hb=>by
  rcases hb with hb | rfl
  ·have:=HS.out b hb;have:=aV.size;omega
  exact hlt) (.inl ⟨rfl,none,0,rfl⟩) (by omega) Ab (λl hl=>by
  have h1:l.1∈(Qy rows).map (·.1):=PI.2 ⟨l,hl,rfl⟩;rw [Nx,T2] at h1;omega) (λl hl=>by
  have h1:l.2∈(Qy rows).map (·.2):=PI.2 ⟨l,hl,rfl⟩;rw [Lx] at h1;have h2:=pF.out _ h1;omega) (by rw [WT];exact hl)
 have pT:Hid (∀(w1:World) (v:Value),Below wr.heap.size wr w1->Qw w1 (λb=>(S b\/b=w.heap.size+1)\/(wr.heap.size<=b/\b<w1.heap.size)) v (QA [] wd (Qy rows))->(w1.cell? ⟨w.heap.size,0,none⟩=some (.slice fa fl fc)/\w1.cell? ⟨w.heap.size,1,none⟩=some (.map (some b)))/\Calls Tryz.prog 52 #[.agg #[.slice fa fl fc,.map (some b)],v] w1 λr w2=>∃a:Bool,r= .returned (.bool a)/\Wy k S rows w (.returned (.tuple #[v,.bool a])) w2):=λw1 v hb1 hv=>by
  have rs:=aV.trans (hb1.mono aV.size);have er:=HB.trans (hb1.mono (by omega));have dY:w1.heap[w.heap.size]? =some (.cells #[.slice fa fl fc,.map (some b)] 69 (0,0)):=(er.block _ (by omega)).trans dD.2.2;refine ⟨⟨P0 dY rfl,P0 dY rfl⟩,?_⟩;have Ib:Qw w1 (λb=>S b\/(w.heap.size<=b/\b<w1.heap.size)) v (QA [] wd (Qy rows)):=hv.up λb hb=>by
   have:=hb1.size;have:=aV.size;rcases hb with (hb | rfl) | hb
   ·exact .inl hb
   ·exact .inr ⟨by omega,by omega⟩
   exact .inr ⟨by omega,by omega⟩
  have Ic:∀x,(S x\/(w.heap.size<=x/\x<w1.heap.size))->x<w1.heap.size:=λx hx=>by
   rcases hx with hx | hx
   ·have:=HS.out x hx;have:=rs.size;omega
   exact hx.2
  refine Pe (am1 fa fl fc v _ HM.2 Ic (HM.1.on (rs.block b (Mv.lt HM.1))) Ib (an1 hl) (PZ (ap1 _ _ _) mz.out)) ?_;rintro r w2 ⟨hb2,a,rfl,ha⟩;refine ⟨a,rfl,rs.trans (hb2.mono rs.size),.inr ⟨λx hx=>by rw [Aa.out.1];exact pF.out x hx,v,a,rfl,?_,?_⟩⟩
  ·rw [Aa.out.1];exact (Ib.on (OZ.of hb2 Ic)).up λb hb=>hb.imp_right λe=>⟨e.1,by have:=hb2.size;omega⟩
  rw [Aa.out.1];exact ha
 clear Ab hk HR HX jd
 go_upto_region 13 with (first | (go_at_call 51;(with_reducible refine Pe CC ?_);rintro e' w1 ⟨hb1,v1,rfl,hv1⟩))
 obtain ⟨⟨k0,k1⟩,CR⟩:=pT.out w1 v1 hb1 hv1
 go_wp2_with (first | (go_at_call 52;(with_reducible refine Pe CR ?_);rintro e' w2 ⟨a2,rfl,hE⟩))
 refine Qv (v:= .tuple #[v1,.bool a2]) (by simp [results,Tryz.results28,go_sem]) rfl ?_;exact hE
end
