import Derived.Test.YtpdmkhnonbbhnaaGreatMsx
namespace Go.Proofs.YtpdmkhnonbbhnaaGreat
open Go.RowKit Go.Maps
set_option maxHeartbeats 32000000
set_option maxRecDepth 10000
theorem UI {k:Kn}{fs:List Pu}{fa:Option Addr}{fc f:Nat}(aF:Po 0 [] fs=some k)(aY:fs.length<=10000)(IH:YA k fs fa fc f){n:Nat}{r:Rw}{R':List Rw}{ak:List (List Nat)}{rv av:Value}{S:Nat->Prop}{w:World}(h:RefIn k fs fa fc (f+1) n (r::R') ak rv av S w)(hn:n<5000){c:Nat}(bg:c<r.2.length)(hf:r.2.findIdx? (λp=> !Pm p)=some c)(h4:r.2[c].kind=4):
  Calls Tryz.prog 23 #[.slice fa fs.length fc,rv,av,.int .i64 (5000-(n:Int))] w (Uc k fs (f+1) n (r::R') ak w):=by
 have hk:=SJ aF;have hS:=h.set;have hR:=h.rows;have hA:=h.paths;have gY:c<ak.length:=by rw [<-h.rp.wid r (by simp)];exact bg
 obtain ⟨ad,cap,rfl⟩:=Pd.len hR;obtain ⟨bk4,lI,rfl⟩:=Pd.len hA;obtain ⟨g,o,rfl,aM,sg,r0,pa,pc,r1,hp⟩:=hR.rowAt (i:=0) (by simp);rw [Uk,TO] at r0 r1;have ub:w.cell? ⟨g,o,none⟩=some (.int .i64 r.1):=r0;have wl:w.cell? ⟨g,o+1,none⟩=some (.slice pa r.2.length pc):=r1;have gN:Pl w S (.slice pa r.2.length pc) r.2:=hp;obtain ⟨gp,op,rfl,bw3,yU,q0,q1,-⟩:=gN.at bg;rw [h4] at q0;have eh:((r.1,r.2[c]):Sp)∈Pq c (r::R'):=by
  rw [TQ];refine SE.2 ⟨r,by simp,Uo.2 ⟨rfl,PR _,?_⟩⟩;unfold Pm;rw [h4]
  decide
 have jo:=(h.rp.right c).together;obtain ⟨fi,F,j0,hF,uj⟩:=LK aF (SF jo _ eh _ eh).2.1 h4;have DR:=UC fs 0 [] k aF F (Tf hF);have DQ:F.1≠[]:=λe=>by rw [e] at uj;simp at uj
 obtain ⟨gf,of,gs,os,sc,gi,oi,ic,bq3,tu,lK,pU,pV,DS,vL,k1,k2,k3,k4⟩:=Jr h.fams hF DQ DR.2;have H9:=ut1 aF jo eh h4 hF uj;subst bq3;obtain ⟨ga,oa,rfl,bn3,yW,dH,dI,t0,hpt⟩:=hA.pathAt gY;have dh:g<w.heap.size:=hS g sg;have qS:gp<w.heap.size:=hS gp yU;have nW:ga<w.heap.size:=hS ga yW;have qT:ak.length<=50000:=by have:=h.rp.many;have:=h.fuel;omega
 have cH:r.2.length<=50000:=by rw [h.rp.wid r (by simp)];exact qT
 have iT:∀p∈ak,p.length<=50000:=λp hp=>by have:=h.rp.deep p hp;omega
 have cu:Below w.heap.size w (w.alloc (.cells SM 30)):=(Pb _ _).alloc (P6 _) _;have ud:=OZ.of cu hS;have CF:=KV (r.1:Int) _ _ (λy hy=>PQ (hS y hy) cu.size) (gN.on ud) (by omega);rw [hf,show Zk (some c)=(c:Int) from rfl] at CF;have aE:(w.alloc (.cells SM 30)).heap[w.heap.size]? =some (.cells SM 30 (0,0)):=PF _ _;have HA:Hid (∀W',Below w.heap.size w W'->W'.cell? ⟨g,o,none⟩=some (.int .i64 r.1)/\W'.cell? ⟨g,o+1,none⟩=some (.slice (some ⟨gp,op,none⟩) r.2.length pc)/\W'.cell? ⟨gp,op+c*4,none⟩=some (.int .i64 4)/\W'.cell? ⟨gp,op+c*4+1,none⟩=some (.string ⟨r.2[c].name.toArray⟩)/\W'.cell? ⟨ga,oa+c,none⟩=some (.slice dH ak[c].length dI)/\Pv W' S (.slice dH ak[c].length dI) ak[c]):=λW' aj=>
  ⟨(aj.cell (p:=⟨g,o,none⟩) dh).trans ub,(aj.cell (p:=⟨g,o+1,none⟩) dh).trans wl,(aj.cell (p:=⟨gp,op+c*4,none⟩) qS).trans q0,(aj.cell (p:=⟨gp,op+c*4+1,none⟩) qS).trans q1,(aj.cell (p:=⟨ga,oa+c,none⟩) nW).trans t0,hpt.on (OZ.of aj hS)⟩
 have fD:Hid (∀W',Below w.heap.size w W'->PC Qc W' S S (.slice (some ⟨g,o,none⟩) (r::R').length cap) (r::R')/\PC Qp W' S S (.slice (some ⟨ga,oa,none⟩) ak.length lI) ak/\PH W' S (.slice (some ⟨gf,of,none⟩) fs.length fc) fs):=λW' aj=>
  ⟨hR.on (OZ.of aj hS) (OZ.of aj hS) (λ_ h=>h) λ_ h=>h,hA.on (OZ.of aj hS) (OZ.of aj hS) (λ_ h=>h) λ_ h=>h,h.fams.on (OZ.of aj hS)⟩
 have br:Hid (RefIn k fs (some ⟨gf,of,none⟩) fc (f+1) n (r::R') (ak) (.slice (some ⟨g,o,none⟩) (r::R').length cap) (.slice (some ⟨ga,oa,none⟩) ak.length lI) S w):=h;have HS:Hid (∀y,S y->y<w.heap.size):=hS;have dE:Hid (Below w.heap.size w (w.alloc (.cells SM 30))/\(w.alloc (.cells SM 30)).heap[w.heap.size]? =some (.cells SM 30 (0,0))):=⟨cu,aE⟩;obtain ⟨n1,cR⟩:∃n1,n1=n+1:=⟨_,rfl⟩;have x0:IntKind.i64.wrap (5000-(n:Int)-1)=5000-(n1:Int):=by rw [RV];omega
 have x1:¬(5000-(n1:Int))<0:=by omega
 have i':Hid (n1=n+1):=cR;have jj:Hid (Q4 k fs (f+1) n (r::R') ak=(Qk (λx m=>Q4 k fs f m (QJ k (r::R') c x) (S2 ak c (O' k x.1).2.2)) (Pg k (Pq c (r::R'))) (n+1)).bind λa=>if Ss k fs (Pg k (Pq c (r::R'))) then some (((3,0,ak.getD c []),(Pg k (Pq c (r::R'))).zip a.1,[]),a.2) else (Q4 k fs f a.2 (RA (r::R') c) (S2 ak c 0)).map λe=>(((3,0,ak.getD c []),(Pg k (Pq c (r::R'))).zip a.1,[e.1]),e.2)):=by
  show _=_
  conv=>lhs;unfold Q4
  rw [P7 (by omega)];dsimp only;rw [hf]
  rfl
 have HN:Hid (n<5000):=hn;have hz:¬((R'.length:Int)+1)=0:=by omega
 have bJ:(0:Int)<(R'.length:Int)+1:=by omega
 have yS:(R'.length+1=0)=False:=by simp
 have c1:(0:Int)<=(c:Int):=by omega
 have c2:(c:Int)<(r.2.length:Int):=by omega
 have c3:(c:Int)<(ak.length:Int):=by omega
 have c4:¬(c:Int)<0:=by omega
 have Dy:Hid (ak[c].length<=50000):=iT _ (Px gY);have Dz:Hid (∀W',Below w.heap.size w W'->Calls Tryz.prog 39 #[.slice (some ⟨ga,oa,none⟩) ak.length lI,.int .i64 c,.int .i64 0] W' λr w'=>∃v,r= .returned v/\Below W'.heap.size W' w'/\Pi Qp 26 W'.heap.size S w' v (Zp ak c 0)):=λW' aj=>JU _ ak c 0 (λy hy=>PQ (hS y hy) aj.size) (fD.out W' aj).2.1 gY (by omega) (by omega) λp hp=>by have:=iT p hp;omega
 have bv7:Hid (∀W' (many:Nat),Below w.heap.size w W'->many<=8->Calls Tryz.prog 39 #[.slice (some ⟨ga,oa,none⟩) ak.length lI,.int .i64 c,.int .i64 many] W' λr w'=>∃v,r= .returned v/\Below W'.heap.size W' w'/\Pi Qp 26 W'.heap.size S w' v (Zp ak c many)):=λW' many aj hm=>JU _ ak c many (λy hy=>PQ (hS y hy) aj.size) (fD.out W' aj).2.1 gY (by omega) (by omega) λp hp=>by have:=iT p hp;omega
 have ax5:Hid (∀W' (nm:Qg),Below w.heap.size w W'->Calls Tryz.prog 43 #[.slice (some ⟨g,o,none⟩) (R'.length+1) cap,.int .i64 c,.string ⟨nm.toArray⟩] W' λq w'=>q= .returned (.bool ((r::R').any (Sc c nm)))/\Below W'.heap.size W' w'):=λW' nm aj=>uw1 _ _ c nm (λy hy=>PQ (hS y hy) aj.size) (fD.out W' aj).1 (λq hq=>by rw [h.rp.wid q hq];exact gY) (by have:=h.rp.num;omega) (λq hq=>by rw [h.rp.wid q hq];omega);have gL:Hid (∀W' (nm:Qg) (many:Nat),Below w.heap.size w W'->many<=8->Calls Tryz.prog 44 #[.slice (some ⟨g,o,none⟩) (R'.length+1) cap,.int .i64 c,.string ⟨nm.toArray⟩,.int .i64 many] W' λq w'=>∃v,q= .returned v/\Below W'.heap.size W' w'/\Pi Qc 60 W'.heap.size S w' v (Pw (T3 c nm many) c (r::R'))):=λW' nm many aj hm=>XW _ _ c nm many (λy hy=>PQ (hS y hy) aj.size) (fD.out W' aj).1 (λq hq=>by rw [h.rp.wid q hq];exact gY) (by have:=h.rp.num;omega) (by omega) (λq hq=>by rw [h.rp.wid q hq];omega) λq hq p hp=>by
  have h1:=h.rp.small q hq p hp;have h2:=p.sz_eq;have h3:=Xs p.kids;omega
 have pT:Hid (∀W',Below w.heap.size w W'->Calls Tryz.prog 45 #[.slice (some ⟨g,o,none⟩) (R'.length+1) cap,.int .i64 c] W' λq w'=>∃v,q= .returned v/\Below W'.heap.size W' w'/\Pi Qc 60 W'.heap.size S w' v (RA (r::R') c)):=λW' aj=>px0 _ _ c (λy hy=>PQ (hS y hy) aj.size) (fD.out W' aj).1 (λq hq=>by rw [h.rp.wid q hq];exact gY) (by have:=h.rp.num;omega) (λq hq=>by rw [h.rp.wid q hq];omega);have DV:Hid (∀W',Below w.heap.size w W'->Calls Tryz.prog 42 #[.slice (some ⟨gf,of,none⟩) fs.length fc,.string ⟨r.2[c].name.toArray⟩] W' λq w'=>w'=W'/\∃j':Int,q= .returned (.tuple #[.int .i64 fi,.int .i64 j'])):=λW' aj=>by
  refine Pe (Kq fs r.2[c].name _ fc (fD.out W' aj).2.2 aY λf hf=>by have:=UC fs 0 [] k aF f hf;omega) ?_;rintro q w' ⟨rfl,⟨i,j,F',h1,h2,rfl⟩ | ⟨hno,_⟩⟩
  ·obtain ⟨_,_,_,e1⟩:=UE aF h1 h2;obtain ⟨_,_,_,e2⟩:=UE aF hF uj;rw [e1] at e2;injection e2 with e2;injection e2 with e2 _;subst e2;exact ⟨rfl,_,rfl⟩
  exact absurd (Tf uj) (hno F (Tf hF))
 have eO:Hid (∀W',Below w.heap.size w W'->W'.cell? ⟨gf,of+fi*2,none⟩=some (.slice (some ⟨gs,os,none⟩) F.1.length sc)/\W'.cell? ⟨gf,of+fi*2+1,none⟩=some (.slice (some ⟨gi,oi,none⟩) F.2.length ic)/\(∀j (h:j<F.1.length),W'.cell? ⟨gs,os+j,none⟩=some (.string ⟨F.1[j].toArray⟩)/\F.1[j].length<140737488355328)/\∀j (h:j<F.2.length),W'.cell? ⟨gi,oi+j,none⟩=some (.int .i64 F.2[j])):=λW' aj=>
  ⟨(aj.cell (p:=⟨gf,of+fi*2,none⟩) (hS gf lK)).trans k1,(aj.cell (p:=⟨gf,of+fi*2+1,none⟩) (hS gf lK)).trans k2,λj hj=>⟨(aj.cell (p:=⟨gs,os+j,none⟩) (hS gs pU)).trans (k3 j hj).1,(k3 j hj).2⟩,λj hj=>(aj.cell (p:=⟨gi,oi+j,none⟩) (hS gi pV)).trans (k4 j hj)⟩
 have hfi:fi<fs.length:=(Tt.1 hF).1;have au2:(0:Int)<=(fi:Int):=by omega
 have aa2:(fi:Int)<(fs.length:Int):=by omega
 have iW:Hid (Pg k (Pq c (r::R'))=QO (r::R') c F.1 F.1.length):=by
  show _=_;rw [H9];unfold QO;rw [QM]
 have pG:Hid (gf<w.heap.size/\gs<w.heap.size):=⟨hS gf lK,hS gs pU⟩;have BA:Hid (fs[fi]? =some F/\F.1.length<=24/\F.2.length=F.1.length):=⟨hF,DR⟩;have zk:F.1[j0]? =some r.2[c].name:=uj;clear cR hn ud aE cu hR hA r0 r1 hp gN h hS sg yU yW hpt iT cH qT h4 hf eh jo H9 uj k1 k2 k3 k4 lK pU pV q1;have aA:(r::R').length=R'.length+1:=rfl;rw [aA] at aM⊢;generalize DB:ak[c].length=pl at *
 go_enter Tryz.func23,Tryz.ntmps23
 go_wp2_with (first
  | (go_at_call 38;(with_reducible refine Pe CF ?_);rintro e' w1 ⟨rfl,hb1⟩;have aR:=dE.out.1.trans (hb1.mono dE.out.1.size);obtain ⟨f0,f1,f2,bp6,f3,f4⟩:=HA.out w1 aR;have ay5:ga<w1.heap.size:=PQ nW aR.size;have cG:∀y,S y->y<w1.heap.size:=(λy hy=>PQ (HS.out y hy) aR.size);have O1:=Pi.made S9 3 w1 S cG;have E1:PC S9 (w1.alloc (.cells #[] 3)) S (RL S w1.heap.size (w1.alloc (.cells #[] 3)) (.slice (some ⟨w1.heap.size,0,none⟩) 0 0)) (.slice dH pl dI) ak[c]:=Pv.toE (f4.on (OZ.of ((Pb _ _).alloc (P6 _) _) cG));have ck:w1.heap.size<=(w1.alloc (.cells #[] 3)).heap.size:=(by simp);have nX:([]:List Nat).length+ak[c].length<=10000000:=(by have:=Dy.out;simp;omega))
  | (go_at_call 39;rw [<-eC];(with_reducible refine Pe CP ?_);rintro e' w4 ⟨ov,rfl,hb4,O4⟩;have bY:=dL.trans (hb4.mono dL.size);obtain ⟨j0,j1,j2,cd4,j3,j4⟩:=HA.out w4 bY;have CN:=DV.out w4 bY)
  | (go_at_call 42;(with_reducible refine Pe CN ?_);rintro e' w5 ⟨e5,j',rfl⟩;rw [e5])
  | (at_builtin;refine Yg (E:=S9) (Z:=S) (w1:=w1.alloc (.cells #[] 3)) (v:= .slice (some ⟨w1.heap.size,0,none⟩) 0 0) (S:=S) Tryz.ty26 rfl _ _ rfl (l:=[]) rfl O1 cG ck (Pb _ _) rfl (m:=ak[c]) E1 nX ?_;intro v2 w2 O2 B2 _;rw [VP] at O2;obtain ⟨ad2,cap2,e2⟩:=Own.len O2;rw [DB] at e2;subst e2;have eV:Below w.heap.size w w2:=(aR.alloc aR.size _).trans (B2.mono aR.size);obtain ⟨W3,eC⟩:∃W3,W3=w2.alloc (.cells #[.int .i64 3,.int .i64 0,.slice ad2 pl cap2,.slice none 0 0,.slice none 0 0] 30):=⟨_,rfl⟩;have hb3:Below w2.heap.size w2 W3:=(by rw [eC];exact (Pb _ _).alloc (P6 _) _);have fu:Hid (W3.heap[w2.heap.size]? =some (.cells #[.int .i64 3,.int .i64 0,.slice ad2 pl cap2,.slice none 0 0,.slice none 0 0] 30 (0,0))):=(by rw [eC];exact PF _ _);have dL:Below w.heap.size w W3:=eV.trans (hb3.mono eV.size);have CP:=Dz.out W3 dL))
 have bz:Hid (Below w.heap.size w w4/\w.heap.size<w2.heap.size/\w2.heap.size<W3.heap.size/\W3.heap.size<=w4.heap.size):=by
  have h0:=PV dE.out.2;have h1:=hb1.size;have h2:=B2.size;have h3:w1.heap.size<=(w1.alloc (.cells #[] 3)).heap.size:=by simp
  exact ⟨bY,by omega,PV fu.out,hb4.size⟩
 have k9:Hid (w4.heap[w2.heap.size]? =some (.cells #[.int .i64 3,.int .i64 0,.slice ad2 pl cap2,.slice none 0 0,.slice none 0 0] 30 (0,0))):=(hb4.block _ (PV fu.out)).trans fu.out;have pS:Hid (Pi S9 3 w1.heap.size S w2 (.slice ad2 pl cap2) ak[c]/\w.heap.size<w1.heap.size):=⟨O2,by have h0:=PV dE.out.2;have h1:=hb1.size;omega⟩;have qU:Hid (∀W',Kx w2.heap.size w4 W'->Below w.heap.size w W'/\PC Qp W' (λy=>S y\/(w2.heap.size<y/\y<w4.heap.size)) (λy=>S y\/(w2.heap.size<y/\y<w4.heap.size)) ov (S2 ak c 0)/\Pv W' (λy=>w.heap.size<y/\y<w2.heap.size) (.slice ad2 pl cap2) ak[c]/\W'.heap[w.heap.size]? =some (.cells SM 30 (0,0))):=λW' bU=>by
  obtain ⟨m1,m2,m3,m4⟩:=bz.out;refine ⟨m1.trans (bU.below (by omega) m1.size),?_,?_,?_⟩
  ·have h1:=Pi.rowE O4;refine h1.on (λy hy=>bU.block y hy.2 (by omega)) (λy hy=> ?_) (λy hy=> .inr ⟨by omega,hy.2⟩) λy hy=>hy.imp id λh=>⟨by omega,h.2⟩;rcases hy with hy | hy
   ·have:=HS.out y hy;exact bU.block y (by omega) (by omega)
   exact bU.block y hy.2 (by omega)
  ·have h1:=PC.toNats (Pi.rowE pS.out.1);have h2:=pS.out.2;refine (h1.on λy hy=> ?_).up λy hy=>⟨by omega,hy.2⟩;exact (bU.block y (by omega) (by omega)).trans ((hb4.block y (by omega)).trans (hb3.block y hy.2))
  have h0:=PV dE.out.2;have h1:=hb1.size;have h2:w1.heap.size<=(w1.alloc (.cells #[] 3)).heap.size:=by simp
  have h3:=B2.size;refine (bU.block _ (by omega) (by omega)).trans ((hb4.block _ (by omega)).trans ((hb3.block _ (by omega)).trans ?_));exact (B2.block _ (by omega)).trans ((((Pb w1.heap.size w1).alloc (P6 _) (.cells #[] 3)).block _ (by omega)).trans ((hb1.block _ h0).trans dE.out.2))
 have nY:Hid (∀(wr w6 W7:World) (m:Nat) (R2:List Rw) (r9:List (List Nat)) (sv ww:Value),Below w.heap.size w wr->Below wr.heap.size wr w6->PC Qc w6 (λy=>S y\/(w2.heap.size<y/\y<w6.heap.size)) (λy=>S y\/(w2.heap.size<y/\y<w6.heap.size)) sv R2->PC Qp w6 (λy=>S y\/(w2.heap.size<y/\y<w6.heap.size)) (λy=>S y\/(w2.heap.size<y/\y<w6.heap.size)) ww r9->Below w6.heap.size w6 W7->n+1<=m->m<=5000->RP k f R2 r9->Calls Tryz.prog 23 #[.slice (some ⟨gf,of,none⟩) fs.length fc,sv,ww,.int .i64 (5000-(m:Int))] W7 (Uc k fs f m R2 r9 W7)):=λwr w6 W7 m R2 r9 sv ww p1 hb6 hO hP hb7 mC hm2 wo=>by
  have ky:Below w.heap.size w w6:=p1.trans (hb6.mono p1.size);have jm:Below w.heap.size w W7:=ky.trans (hb7.mono ky.size);have hlt:∀y,(S y\/(w2.heap.size<y/\y<w6.heap.size))->y<w6.heap.size:=λy hy=>by
   rcases hy with hy | hy
   ·have:=HS.out y hy;have:=ky.size;omega
   exact hy.2
  have fE:∀y,(S y\/(w2.heap.size<y/\y<w6.heap.size))->(S y\/(w2.heap.size<y/\y<W7.heap.size)):=λy hy=>hy.imp id λh=>⟨h.1,by have:=hb7.size;omega⟩;refine IH m _ _ sv ww (λy=>S y\/(w2.heap.size<y/\y<W7.heap.size)) W7 ⟨⟨by have:=br.out.fuel;omega,by have:=br.out.fuel;omega⟩,hm2,λy hy=> ?_,((fD.out W7 jm).2.2).up λ_ h=> .inl h,hO.on (OZ.of hb7 hlt) (OZ.of hb7 hlt) fE fE,hP.on (OZ.of hb7 hlt) (OZ.of hb7 hlt) fE fE,wo⟩;rcases hy with hy | hy
  ·have:=HS.out y hy;have:=jm.size;omega
  exact hy.2
 have nL:Hid (RP k f (RA (r::R') c) (S2 ak c 0)):=br.out.rp.rest hk (by have:=br.out.fuel;omega) gY;have rh:Hid (∀kk (h:kk<F.1.length),∃many:Nat,(O' k F.1[kk]).2.2=many/\many<=8/\F.1[kk]≠[]/\F.2[kk]? =some (many:Int)):=λkk h=>by
  obtain ⟨y,h1,h2,h3⟩:=UE aF BA.out.1 (PR h);refine ⟨y.toNat,?_,?_,hk.name _ (Su h3),by rw [h1];congr 1;omega⟩
  ·unfold O';rw [h3]
   rfl
  exact hk.fields _ (Su h3)
 clear hb4 B2 fu j0 j1 j2 cd4 j3 j4 f0 f1 f2 bp6 f3 f4 ub wl q0 t0 nX ck hb3 bY dL eV eC pS O4 O2 O1 E1 CP CN CF e5;generalize w2.heap.size=T at *
 have ar2:F.1.length<=24:=BA.out.2.1;have ab7:F.2.length=F.1.length:=BA.out.2.2
 go_loopw [3,19] (λlv iv wr=>∃(i m:Nat) (ca:Option Addr) (cl cc:Nat),i<=F.1.length/\iv= .int .i64 i/\lv= .int .i64 (5000-(m:Int))/\Hid (Cz f (λx m=>Q4 k fs f m (QJ k (r::R') c x) (S2 ak c (O' k x.1).2.2)) (QO (r::R') c F.1 i) n T (.slice ad2 pl cap2) w4 (QO (r::R') c F.1 i).length m (.slice ca cl cc) wr)) (λ_ iv _=>F.1.length-(intOf iv).toNat)
 case atStart=>exact ⟨0,n1,none,0,0,by omega,by go_num,rfl,⟨Kx.refl _ _,k9.out,⟨[],by rw [i'.out];rfl,Pi.nil _ _ _ _ _⟩,by rw [i'.out];exact ⟨P6 _,HN.out⟩⟩⟩
 obtain ⟨i,m,ca,cl,cc,hi,rfl,rfl,HZ⟩:=hrel;have hkx:=HZ.out.keep;obtain ⟨p1,p2,p4,p5⟩:=qU.out wr hkx;obtain ⟨a1,a2,a3,a4⟩:=eO.out wr p1;by_cases ag:i<F.1.length
 ·obtain ⟨many,fp,Ha,am,zl⟩:=rh.out i ag;have sD:i<F.2.length:=by omega
  have ee:F.2[i]=(many:Int):=by rw [PR sD] at zl;exact Qs zl
  have lN:Hid (∀W',Below w.heap.size w W'->W'.cell? ⟨gf,of+fi*2,none⟩=some (.slice (some ⟨gs,os,none⟩) F.1.length sc)/\W'.cell? ⟨gf,of+fi*2+1,none⟩=some (.slice (some ⟨gi,oi,none⟩) F.2.length ic)/\W'.cell? ⟨gs,os+i,none⟩=some (.string ⟨F.1[i].toArray⟩)/\W'.cell? ⟨gi,oi+i,none⟩=some (.int .i64 many)):=λW' aj=>by
   obtain ⟨h1,h2,h3,h4⟩:=eO.out W' aj;refine ⟨h1,h2,(h3 i ag).1,?_⟩;rw [<-ee];exact h4 i sD
  have iF:Hid (F.1[i].length<140737488355328):=(a3 i ag).2;clear a1 a2 a3 a4 zl ee;obtain ⟨a1,a2,a3,a4⟩:=lN.out wr p1;have i1:(0:Int)<=(i:Int):=by omega
  have i2:(i:Int)<(F.1.length:Int):=by omega
  have i3:(i:Int)<(F.2.length:Int):=by omega
  have CS:=ax5.out wr F.1[i] p1;have vO:Hid _:=vb1 (R:=r::R') (c:=c) ag;have cd3:Hid ((r::R').any (Sc c F.1[i])=true->((F.1[i],0):Cs)∈Pg k (Pq c (r::R'))):=λh=>by
   rw [iW.out];unfold QO;rw [QM];exact PI.2 ⟨F.1[i],Sq.2 ⟨Px ag,h⟩,rfl⟩
  generalize F.1[i]=nm at *
  obtain ⟨st,uk⟩:∃st,st=(r::R').any (Sc c nm):=⟨_,rfl⟩;rw [<-uk] at CS;have ib:Hid (st=(r::R').any (Sc c nm)):=uk;clear uk
  go_upto_region 27 with (first | (go_at_call 43;(with_reducible refine Pe CS ?_);rintro e' w6 ⟨rfl,hb6⟩))
  have ky:Below w.heap.size w w6:=p1.trans (hb6.mono p1.size);cases st with
  | false=>
   have eY:(r::R').any (Sc c nm)=false:=ib.out.symm;have ze:Hid (Cz f (λx m=>Q4 k fs f m (QJ k (r::R') c x) (S2 ak c (O' k x.1).2.2)) (QO (r::R') c F.1 (i+1)) n T (.slice ad2 pl cap2) w4 (QO (r::R') c F.1 (i+1)).length m (.slice ca cl cc) w6):=by
    have:=vO.out;rw [eY,P7 (by simp),SH] at this;show Cz _ _ _ _ _ _ _ _ _ _ _;rw [this];exact HZ.out.on (by have:=bz.out;omega) hb6
   clear eY ib;go_wp2;exact ⟨⟨i+1,m,ca,cl,cc,ag,by go_num,rfl,ze.out⟩,by simp [intOf];omega⟩
  | true=>
   have eY:(r::R').any (Sc c nm)=true:=ib.out.symm;have cG:Hid (QO (r::R') c F.1 (i+1)=QO (r::R') c F.1 i++[(nm,0)]):=by
    have:=vO.out;rw [eY,Pc rfl] at this;exact this
   have nx:Hid _:=cd3.out eY;obtain ⟨d1,d2,d3,d4⟩:=lN.out w6 ky;have CC:=gL.out w6.drew nm many ky.drew Ha;have aw:((w6.drew.cell? ⟨gf,of+fi*2,none⟩=some (.slice (some ⟨gs,os,none⟩) F.1.length sc)/\w6.drew.cell? ⟨gf,of+fi*2+1,none⟩=some (.slice (some ⟨gi,oi,none⟩) F.2.length ic))/\w6.drew.cell? ⟨gs,os+i,none⟩=some (.string ⟨nm.toArray⟩)/\w6.drew.cell? ⟨gi,oi+i,none⟩=some (.int .i64 many)):=⟨⟨d1,d2⟩,d3,d4⟩;have ik:Hid (Below w.heap.size w w6.drew):=ky.drew;clear d1 d2 d3 d4 a1 a2 a3 a4 CS eY ib
   go_upto_region 28 with fail
   go_region_held3 (λw'=>(w'.cell? ⟨gf,of+fi*2,none⟩=some (.slice (some ⟨gs,os,none⟩) F.1.length sc)/\w'.cell? ⟨gf,of+fi*2+1,none⟩=some (.slice (some ⟨gi,oi,none⟩) F.2.length ic))/\w'.cell? ⟨gs,os+i,none⟩=some (.string ⟨nm.toArray⟩)/\w'.cell? ⟨gi,oi+i,none⟩=some (.int .i64 many))
    (first | (with_reducible exact aw) | (with_reducible exact mP))
    (first | (go_at_call 44;(with_reducible refine Pe CC ?_);rintro e' w7 ⟨sv,rfl,hb7,O7⟩;obtain ⟨g1,g2,g3,g4⟩:=lN.out w7 (ik.out.trans (hb7.mono ik.out.size));have mP:((w7.cell? ⟨gf,of+fi*2,none⟩=some (.slice (some ⟨gs,os,none⟩) F.1.length sc)/\w7.cell? ⟨gf,of+fi*2+1,none⟩=some (.slice (some ⟨gi,oi,none⟩) F.2.length ic))/\w7.cell? ⟨gs,os+i,none⟩=some (.string ⟨nm.toArray⟩)/\w7.cell? ⟨gi,oi+i,none⟩=some (.int .i64 many)):=⟨⟨g1,g2⟩,g3,g4⟩))
   have jl:Below wr.heap.size wr w7:=hb6.drew.trans (hb7.mono hb6.size);have jm:Below w.heap.size w w7:=p1.trans (jl.mono p1.size);have CP:=bv7.out w7 many jm Ha;have bl4:Hid (Pi Qc 60 w6.heap.size S w7 sv (Pw (T3 c nm many) c (r::R'))):=O7;have zn:Hid (Below wr.heap.size wr w7/\wr.heap.size<=w6.heap.size/\w6.heap.size<=w7.heap.size):=⟨jl,hb6.size,hb7.size⟩;clear aw mP g1 g3 hb7 O7 CC
   go_upto_region 30 with (first | (go_at_call 39;(with_reducible refine Pe CP ?_);rintro e' w8 ⟨ww,rfl,hb8,O8⟩))
   have aX:=HZ.out.cnt;have fe:Below wr.heap.size wr w8:=jl.trans (hb8.mono jl.size);have bD:Hid (T<wr.heap.size/\w4.heap.size<=wr.heap.size):=⟨by have:=bz.out;have:=hkx.size;omega,hkx.size⟩;have kR:∀W7,W7=w8.alloc (.cells SM 30)->_:=λW7 DC=>nY.out wr w8 W7 m (Pw (T3 c nm many) c (r::R')) (S2 ak c many) sv ww p1 fe (by
     have h1:=zn.out;have h2:=bD.out;have h3:=hb8.size;refine (Pi.rowE bl4.out).on (OZ.of hb8 λy hy=>hy.2) (OZ.of hb8 λy hy=> ?_) (λy hy=> .inr ⟨by omega,by omega⟩) λy hy=>hy.imp id λh=>⟨by omega,by omega⟩;rcases hy with hy | hy
     ·have:=HS.out y hy;have:=jm.size;omega
     ·exact hy.2) (by
     have h1:=zn.out;have h2:=bD.out;exact (Pi.rowE O8).on (OZ.refl _ _) (OZ.refl _ _) (λy hy=> .inr ⟨by omega,by omega⟩) λy hy=>hy.imp id λh=>⟨by omega,by omega⟩) (by rw [DC];exact (Pb _ _).alloc (P6 _) _) aX.1 aX.2 (by
     have h1:=br.out.rp.case hk (by have:=br.out.fuel;omega) gY nx.out
     rw [EK k c am] at h1;dsimp only at h1;rw [fp] at h1;exact h1)
   have Hb:=kR _ rfl;clear kR CP O8 g2 g4 aX
   go_upto_region 31 with fail
   go_upto_region 32 with (first
    | (go_at_call 23;(with_reducible refine Pe Hb ?_);rintro e' dC tJ;obtain ⟨hb10,xa,xb,jM,jN,jO,jP,jQ,jR,jS,jT,jU,lv,rfl,zo⟩:=tJ.flat;have fM:=(hb10.block w8.heap.size (by simp)).trans (PF w8 (.cells SM 30));have s0:=P5 fM (i:=0) rfl;have s1:=P5 fM (i:=1) rfl;have s2:=P5 fM (i:=2) rfl;have s3:=P5 fM (i:=3) rfl;have s4:=P5 fM (i:=4) rfl;have z0:=Pp (o:=0) fM;have z1:=Pp (o:=1) fM;have z2:=Pp (o:=2) fM;have z3:=Pp (o:=3) fM;have z4:=Pp (o:=4) fM))
   have fy:Hid (Q4 k fs f m (QJ k (r::R') c (nm,0)) (S2 ak c (O' k nm).2.2)=Q4 k fs f m (Pw (T3 c nm many) c (r::R')) (S2 ak c many)):=by
    show _=_;rw [EK k c am,fp]
   obtain ⟨U,hU,jB,bj,c9,aP⟩:=Ud fM (.int .i64 xa) (.int .i64 xb) (.slice jM jN jO) (.slice jP jQ jR) (.slice jS jT jU);rw [<-hU];have im:Below wr.heap.size wr dC:=(fe.alloc fe.size _).trans (hb10.mono (by have:=fe.size;simp;omega));have ii:Below wr.heap.size wr U:=⟨aP.1.trans im.os,aP.2.1.trans im.tape,aP.2.2.trans im.output,by rw [bj];exact im.size,λy hy=>(c9 y (by have:=fe.size;omega)).trans (im.block y hy)⟩;have nK:Hid (Below wr.heap.size wr U):=ii;have cB:U.heap[w.heap.size]? =some (.cells #[.int .i64 0,.int .i64 0,.slice none 0 0,.slice none 0 0,.slice none 0 0] 30 (0,0)):=(ii.block _ (by have:=bD.out;have:=bz.out;omega)).trans p5;have lJ:Below w.heap.size w U:=p1.trans (ii.mono p1.size);have HX:Hid (w8.heap.size<U.heap.size/\wr.heap.size<=w8.heap.size/\∀t,PL dC (λy=>(w8.alloc (.cells SM 30)).heap.size<=y/\y<dC.heap.size) f (.agg #[.int .i64 xa,.int .i64 xb,.slice jM jN jO,.slice jP jQ jR,.slice jS jT jU]) t->PL U (λy=>w8.heap.size<y/\y<U.heap.size) f (.agg #[.int .i64 xa,.int .i64 xb,.slice jM jN jO,.slice jP jQ jR,.slice jS jT jU]) t):=by
    refine ⟨PV jB,fe.size,λt ht=>PL.below (λy hy=>c9 y (by have:=hy.1;simp at this;omega)) (λy hy=>⟨by have:=hy.1;simp at this;omega,by rw [bj];exact hy.2⟩) f _ _ ht⟩
   clear s0 s1 s2 s3 s4 z0 z1 z2 z3 z4 fM bj c9 aP hU im Hb tJ hb10;by_cases jz:lv<0
   ·obtain ⟨eD,mH⟩:=zo.out.1 jz;have cY:Hid (Q4 k fs (f+1) n (r::R') ak=none):=by
     obtain ⟨ts,e1,_⟩:=HZ.out.made;rw [QM] at e1;have e2:=ZQ _ (nm,0) _ _ _ e1;have e3:Qk (λx m=>Q4 k fs f m (QJ k (r::R') c x) (S2 ak c (O' k x.1).2.2)) (Pg k (Pq c (r::R'))) (n+1)=none:=by
      obtain ⟨rest,aw3⟩:=vc1 (R:=r::R') (c:=c) (l:=F.1) (i:=i+1);rw [iW.out,aw3];refine D8 _ _ _ ?_;rw [cG.out,e2,fy.out,mH]
      rfl
     show _=_;rw [jj.out,e3]
     rfl
    subst eD;have s0:=P5 cB (i:=0) rfl;have s1:=P5 cB (i:=1) rfl;have s2:=P5 cB (i:=2) rfl;have s3:=P5 cB (i:=3) rfl;have s4:=P5 cB (i:=4) rfl;have z0:=Pp (o:=0) cB;have z1:=Pp (o:=1) cB;have z2:=Pp (o:=2) cB;have z3:=Pp (o:=3) cB;have z4:=Pp (o:=4) cB;go_wp2;obtain ⟨V,hV,eG,j5,gZ,ku⟩:=Ud cB (.int .i64 0) (.int .i64 0) (.slice none 0 0) (.slice none 0 0) (.slice none 0 0);rw [<-hV];have u0:=P5 eG (i:=0) rfl;have u1:=P5 eG (i:=1) rfl;have u2:=P5 eG (i:=2) rfl;have u3:=P5 eG (i:=3) rfl;have u4:=P5 eG (i:=4) rfl;refine Qv (v:= .tuple #[.agg #[.int .i64 0,.int .i64 0,.slice none 0 0,.slice none 0 0,.slice none 0 0],.int .i64 (-1)]) (by simp [results,Tryz.results23,go_sem,u0,u1,u2,u3,u4]) rfl ?_;exact ⟨Zx lJ j5 gZ ku,.inl ⟨cY.out,_,_,_,_,_,_,_,_,_,_,_,rfl⟩⟩
   obtain ⟨t,m',ig,uf,nZ,kZ⟩:=zo.out.2 (by omega);have HRS:Hid (Q4 k fs f m (Pw (T3 c nm many) c (r::R')) (S2 ak c many)=some (t,m')/\m'<=5000):=⟨ig,uf⟩;have mO:U.heap[T]? =some (.cells #[.int .i64 3,.int .i64 0,.slice ad2 pl cap2,.slice ca cl cc,.slice none 0 0] 30 (0,0)):=(ii.block T bD.out.1).trans HZ.out.blk;have t3:=P5 mO (i:=3) rfl;obtain ⟨yg,_,yl,_⟩:=lN.out U lJ;have DD:=P5 jB (i:=0) rfl;have DE:=P5 jB (i:=1) rfl;have DF:=P5 jB (i:=2) rfl;have DG:=P5 jB (i:=3) rfl;have DH:=P5 jB (i:=4) rfl;obtain ⟨ts,e1,hown⟩:=HZ.out.made;rw [QM] at e1 hown;have dg:(QO (r::R') c F.1 i).zip ts=(QO (r::R') c F.1 i).zip ts:=rfl;generalize iT:(QO (r::R') c F.1 i).zip ts=done at hown dg;obtain ⟨ca',cc',sU⟩:=Own.len hown;injection sU with DI ug DJ;subst DI ug DJ;have jn:Hid ((RY f).C U.drew (RL No w4.heap.size U.drew (.slice ca done.length cc)) (ZD (nm,0) (.int .i64 xa) (.int .i64 xb) (.slice jM jN jO) (.slice jP jQ jR) (.slice jS jT jU)) ((nm,0),t)):=by
    refine ⟨_,_,_,_,_,rfl,iF.out,PL.below (w:=U) (w':=U.drew) (S:=λy=>w8.heap.size<y/\y<U.heap.size) (λ_ _=>rfl) (λy hy=> .inr ⟨by have:=HX.out;have:=bD.out;omega,hy.2,λe=>by have:=(hown.lt y e).2;have:=HX.out;omega⟩) f _ _ (HX.out.2.2 t kZ)⟩
   have DK:Hid (done.length<=100000):=by
    show _<=_;rw [<-iT,Yi];have:=qj0 (R:=r::R') (c:=c) (l:=F.1) (i:=i);omega
   have uh:Hid (Pi (RY f) 53 w4.heap.size No wr (.slice ca done.length cc) done):=hown;have DL:Hid (w4.heap.size<=wr.heap.size):=bD.out.2;have y0:=t3;have DM:Hid (U.heap[T]? =some (.cells #[.int .i64 3,.int .i64 0,.slice ad2 pl cap2,.slice ca done.length cc,.slice none 0 0] 30 (0,0))):=mO;have z8:Hid (T<U.heap.size/\(Value.slice ca done.length cc).ownBlock≠some T):=⟨PV mO,λe=>by have:=hown.lt T e;have:=bz.out;omega⟩;have n0:T<U.heap.size:=PV mO;have ba5:¬T=U.heap.size:=by omega
   have DN:¬U.heap.size=T:=by omega
   have DO:w8.heap.size<U.heap.size:=HX.out.1;have G6:¬w8.heap.size=U.heap.size:=by omega
   have bb7:gf<U.heap.size:=PQ (pG.out.1) lJ.size;have bh6:¬gf=U.heap.size:=by omega
   have af6:gs<U.heap.size:=PQ (pG.out.2) lJ.size;have al2:¬gs=U.heap.size:=by omega
   clear hown dg kZ mO y0 jB
   go_upto_region 34 with fail
   go_region_law ((refine Lo (E:=RY f) (w1:=wr) (w2:=U.drew) (v:= .slice ca done.length cc) (cs:=ZD (nm,0) (.int .i64 xa) (.int .i64 xb) (.slice jM jN jO) (.slice jP jQ jR) (.slice jS jT jU)) (p:=((nm,0),t)) (cap:=1) (Tryz.ty27 f) (by rfl) _ _ (by rfl) (by rfl) uh.out No.lt DL.out nK.out.drew U.heap.size (by rfl) (by rfl) jn.out (by have:=DK.out;omega) ?_;intro g9 cC w9 O9 DP ui;have qW:=(ui.out.2 T z8.out.1 z8.out.2).trans DM.out;have t9:=P5 qW (i:=3) rfl;have z9:=Pp (o:=3) qW))
   all_goals
    have ze:Hid (Cz f (λx m=>Q4 k fs f m (QJ k (r::R') c x) (S2 ak c (O' k x.1).2.2)) (QO (r::R') c F.1 (i+1)) n T (.slice ad2 pl cap2) w4 (QO (r::R') c F.1 (i+1)).length m' (.slice (some ⟨g9,0,none⟩) (done.length+1) cC) (w9.setCell ⟨T,3,none⟩ (.slice (some ⟨g9,0,none⟩) (done.length+1) cC))):=by
     have zg:Kx T w4 w9:=by
      have h1:=HZ.out.keep;have h2:=ui.out.1;exact ⟨h2.os.trans h1.os,h2.tape.trans h1.tape,h2.output.trans h1.output,PZ h1.size h2.size,λy hy am=>(h2.block y hy).trans (h1.block y hy am)⟩
     refine ⟨zg.setCell 3 _,Q5 qW,⟨ts++[t],?_,?_⟩,?_⟩
     ·rw [QM,cG.out,ZQ _ (nm,0) _ _ _ e1];dsimp only;rw [fy.out,HRS.out.1]
      rfl
     ·rw [QM,cG.out,EU _ _ _ _ (Nq _ _ _ _ e1).symm,iT];exact O9.keep (by have:=bz.out;omega) (λh=>h.elim) ((Kx.refl T w9).setCell 3 _) No.lt (PZ zg.size (P6 _))
     have h1:=NN k fs f m _ _ _ HRS.out.1;have h2:=HZ.out.cnt;dsimp only at h1;exact ⟨by omega,HRS.out.2⟩
    clear O9 DP ui qW;go_wp2;exact ⟨⟨i+1,m',some ⟨g9,0,none⟩,done.length+1,cC,ag,by go_num,rfl,ze.out⟩,by simp [intOf];omega⟩
 have jH:i=F.1.length:=by omega
 subst jH;obtain ⟨ts,e1,hown⟩:=HZ.out.made;obtain ⟨ca',cc',sU⟩:=Own.len hown;injection sU with pC sU eB;clear pC eB;have ul:cl=(Pg k (Pq c (r::R'))).length:=by
  rw [sU,Yi,Nq _ _ _ _ e1,Nat.min_self,QM,<-iW.out]
 have mE:Hid (cl=(Pg k (Pq c (r::R'))).length/\cl<=24):=⟨ul,by
  have:=qj0 (R:=r::R') (c:=c) (l:=F.1) (i:=F.1.length);rw [ul,iW.out];omega⟩
 clear ul sU hown e1;have BB:Hid (Ss k fs (Pg k (Pq c (r::R')))=decide (cl=F.1.length)):=by
  show _=_;have h1:=vd1 aF BA.out.1 (λe=>by rw [e] at zk;simp at zk) (r::R') c;rw [<-iW.out] at h1;rw [h1,mE.out.1]
 have t3:=P5 HZ.out.blk (i:=3) rfl;have bD:Hid (T<wr.heap.size/\w4.heap.size<=wr.heap.size):=⟨by have:=bz.out;have:=hkx.size;omega,hkx.size⟩;by_cases ks:cl=F.1.length
 ·have jk:Hid (Ss k fs (Pg k (Pq c (r::R')))=true):=by
   show _=_;rw [BB.out];exact T7 ks
  have e0:((cl:Int)==(F.1.length:Int))=true:=by rw [ks];simp
  clear p2
  go_upto_region 36 with (go_quiet (fail))
  obtain ⟨wd,dR⟩:∃wd,wd=wr.drewN nq:=⟨_,rfl⟩;rw [<-dR];have kf:Below wr.heap.size wr wd:=by rw [dR];exact ⟨rfl,rfl,rfl,P6 _,λ_ _=>rfl⟩
  have ri:Hid _:=HZ.out.on (by have:=bz.out;omega) kf;have jC:=ri.out.keep;have zr:Hid (T<wd.heap.size/\w4.heap.size<=wd.heap.size):=⟨by have:=bD.out;have:=kf.size;omega,jC.size⟩;obtain ⟨p1,p2,p4,p5⟩:=qU.out wd jC;clear dR kf hkx bD HZ t3 p2 ks e0 BB;have zs:=ri.out.blk;have de:wd.heap[w.heap.size]? =some (.cells #[.int .i64 0,.int .i64 0,.slice none 0 0,.slice none 0 0,.slice none 0 0] 30 (0,0)):=p5;have t0:=P5 zs (i:=0) rfl;have t1:=P5 zs (i:=1) rfl;have t2:=P5 zs (i:=2) rfl;have t3:=P5 zs (i:=3) rfl;have t4:=P5 zs (i:=4) rfl;have s0:=P5 de (i:=0) rfl;have s1:=P5 de (i:=1) rfl;have s2:=P5 de (i:=2) rfl;have s3:=P5 de (i:=3) rfl;have s4:=P5 de (i:=4) rfl;have z0:=Pp (o:=0) de;have z1:=Pp (o:=1) de;have z2:=Pp (o:=2) de;have z3:=Pp (o:=3) de;have z4:=Pp (o:=4) de;obtain ⟨V,hV,eG,j5,gZ,ku⟩:=Ud de (.int .i64 3) (.int .i64 0) (.slice ad2 pl cap2) (.slice ca cl cc) (.slice none 0 0);have u0:=P5 eG (i:=0) rfl;have u1:=P5 eG (i:=1) rfl;have u2:=P5 eG (i:=2) rfl;have u3:=P5 eG (i:=3) rfl;have u4:=P5 eG (i:=4) rfl;have bP:Hid (Uc k fs (f+1) n (r::R') ak w (.returned (.tuple #[.agg #[.int .i64 3,.int .i64 0,.slice ad2 pl cap2,.slice ca cl cc,.slice none 0 0],.int .i64 (5000-(m:Int))])) V):=by
   obtain ⟨ts,e1,hown⟩:=ri.out.made;obtain ⟨m1,m2,m3,m4⟩:=bz.out;rw [QM,<-iW.out] at e1 hown;refine ⟨Zx p1 j5 gZ ku,.inr ⟨(((3,0,ak.getD c []),(Pg k (Pq c (r::R'))).zip ts,[]):(Int×Nat×List Nat)×List (Cs×Tr f)×List (Tr f)),m,?_,ri.out.cnt.2,_,_,_,_,_,_,_,_,_,_,_,rfl,?_⟩⟩
   ·rw [jj.out,e1,Sw,jk.out,Pc rfl]
    rfl
   have ez:ak.getD c []=ak[c]:=by rw [UU,PR gY];rfl
   rw [ez];exact ve1 (B:=w4.heap.size) m2 (by omega) zr.out.2 p4 hown j5 gZ
  clear j5 gZ ku p4 p5;go_wp2;rw [<-hV];refine Qv (v:= .tuple #[.agg #[.int .i64 3,.int .i64 0,.slice ad2 pl cap2,.slice ca cl cc,.slice none 0 0],.int .i64 (5000-(m:Int))]) (by simp [results,Tryz.results23,go_sem,u0,u1,u2,u3,u4]) rfl ?_;exact bP.out
 have jk:Hid (Ss k fs (Pg k (Pq c (r::R')))=false):=by
  show _=_;rw [BB.out];exact Ti ks
 have e0:((cl:Int)==(F.1.length:Int))=false:=by simp;omega
 clear p2
 go_upto_region 37 with (go_quiet (fail))
 obtain ⟨wd,dR⟩:∃wd,wd=wr.drewN nq:=⟨_,rfl⟩;rw [<-dR];have kf:Below wr.heap.size wr wd:=by rw [dR];exact ⟨rfl,rfl,rfl,P6 _,λ_ _=>rfl⟩
 have ri:Hid _:=HZ.out.on (by have:=bz.out;omega) kf;have jC:=ri.out.keep;have zr:Hid (T<wd.heap.size/\w4.heap.size<=wd.heap.size):=⟨by have:=bD.out;have:=kf.size;omega,jC.size⟩;obtain ⟨p1,p2,p4,p5⟩:=qU.out wd jC;clear dR kf hkx bD HZ t3 ks e0 BB;have CR:=pT.out wd p1;have aX:=ri.out.cnt;have CT:∀w6 sv,Below wd.heap.size wd w6->Pi Qc 60 wd.heap.size S w6 sv (RA (r::R') c)->_:=λw6 sv hb hO=>nY.out wd w6 w6 m _ _ sv ov p1 hb (by
   have h2:=zr.out;refine (Pi.rowE hO).on (OZ.refl _ _) (OZ.refl _ _) (λy hy=> .inr ⟨by omega,by omega⟩) λy hy=>hy.imp id λh=>⟨by omega,by omega⟩) (by
   have h2:=zr.out;have h3:=hb.size;have hlt:∀y,(S y\/(T<y/\y<w4.heap.size))->y<wd.heap.size:=λy hy=>by
    rcases hy with hy | hy
    ·have:=HS.out y hy;have:=p1.size;omega
    omega
   exact p2.on (OZ.of hb hlt) (OZ.of hb hlt) (λy hy=>hy.imp id λh=>⟨h.1,by omega⟩) λy hy=>hy.imp id λh=>⟨h.1,by omega⟩) (Pb _ _) aX.1 aX.2 nL.out
 have vE:Hid _:=p4;have bD:Hid (T<wd.heap.size/\w4.heap.size<=wd.heap.size):=zr.out;clear p4 aX
 go_upto_region 38 with (first
  | (go_at_call 45;(with_reducible refine Pe CR ?_);rintro e' dC ⟨sv,rfl,hb10,O10⟩;have kR:=CT dC sv hb10 O10))
 clear CR CT O10
 go_upto_region 39 with (first
  | (go_at_call 23;(with_reducible refine Pe kR ?_);rintro e' w11 o9;obtain ⟨hb11,xa,xb,jM,jN,jO,jP,jQ,jR,jS,jT,jU,lv,rfl,od⟩:=o9.flat))
 have dy:Below wd.heap.size wd w11:=hb10.trans (hb11.mono hb10.size);have gB:w11.heap[T]? =some (.cells #[.int .i64 3,.int .i64 0,.slice ad2 pl cap2,.slice ca cl cc,.slice none 0 0] 30 (0,0)):=(dy.block T bD.out.1).trans ri.out.blk;have t4:=P5 gB (i:=4) rfl;have z4:=Pp (o:=4) gB;have n0:T<w11.heap.size:=PV gB;have DN:¬T=w11.heap.size:=by omega
 have DO:¬T=w11.heap.size+1:=by omega
 have zh:Hid (Below dC.heap.size dC w11/\wd.heap.size<=dC.heap.size):=⟨hb11,hb10.size⟩;clear hb11 hb10 kR o9
 go_upto_region 40 with fail
 obtain ⟨A,hA,og,zi,zj,qX,qY⟩:=qh0 (o:= .cells #[.int .i64 xa,.int .i64 xb,.slice jM jN jO,.slice jP jQ jR,.slice jS jT jU] 30) gB;rw [<-hA];have de:A.heap[w.heap.size]? =some (.cells #[.int .i64 0,.int .i64 0,.slice none 0 0,.slice none 0 0,.slice none 0 0] 30 (0,0)):=(qX _ (by have:=bD.out;have:=bz.out;omega) (by have:=bz.out;omega)).trans ((dy.block _ (by have:=bD.out;have:=bz.out;omega)).trans p5);have t0:=P5 og (i:=0) rfl;have t1:=P5 og (i:=1) rfl;have t2:=P5 og (i:=2) rfl;have t3:=P5 og (i:=3) rfl;have t4:=P5 og (i:=4) rfl;have s0:=P5 de (i:=0) rfl;have s1:=P5 de (i:=1) rfl;have s2:=P5 de (i:=2) rfl;have s3:=P5 de (i:=3) rfl;have s4:=P5 de (i:=4) rfl;have z0:=Pp (o:=0) de;have z1:=Pp (o:=1) de;have z2:=Pp (o:=2) de;have z3:=Pp (o:=3) de;have H8:=Pp (o:=4) de;obtain ⟨V,hV,eG,j5,gZ,ku⟩:=Ud de (.int .i64 3) (.int .i64 0) (.slice ad2 pl cap2) (.slice ca cl cc) (.slice (some ⟨w11.heap.size+1,0,none⟩) 1 1);have u0:=P5 eG (i:=0) rfl;have u1:=P5 eG (i:=1) rfl;have u2:=P5 eG (i:=2) rfl;have u3:=P5 eG (i:=3) rfl;have u4:=P5 eG (i:=4) rfl;have bP:Hid (Uc k fs (f+1) n (r::R') ak w (.returned (.tuple #[.agg #[.int .i64 3,.int .i64 0,.slice ad2 pl cap2,.slice ca cl cc,.slice (some ⟨w11.heap.size+1,0,none⟩) 1 1],.int .i64 lv])) V):=by
  obtain ⟨ts,e1,hown⟩:=ri.out.made;obtain ⟨m1,m2,m3,m4⟩:=bz.out;rw [QM,<-iW.out] at e1 hown;have fX:Below w.heap.size w A:=by
   have h1:=p1.trans (dy.mono p1.size);exact ⟨qY.1.trans h1.os,qY.2.1.trans h1.tape,qY.2.2.trans h1.output,by rw [zj];have:=h1.size;omega,λy hy=>(qX y (by have:=h1.size;omega) (by omega)).trans (h1.block y hy)⟩
  refine ⟨Zx fX j5 gZ ku,?_⟩;by_cases jz:lv<0
  ·obtain ⟨eD,mH⟩:=od.out.1 jz;subst eD;refine .inl ⟨?_,_,_,_,_,_,_,_,_,_,_,_,rfl⟩;rw [jj.out,e1,Sw,jk.out,P7 (by simp),mH]
   rfl
  obtain ⟨t,m',ig,uf,nZ,kZ⟩:=od.out.2 (by omega);subst nZ;refine .inr ⟨(((3,0,ak.getD c []),(Pg k (Pq c (r::R'))).zip ts,[t]):(Int×Nat×List Nat)×List (Cs×Tr f)×List (Tr f)),m',?_,uf,_,_,_,_,_,_,_,_,_,_,_,rfl,?_⟩
  ·rw [jj.out,e1,Sw,jk.out,P7 (by simp),ig]
   rfl
  have ez:ak.getD c []=ak[c]:=by rw [UU,PR gY];rfl
  rw [ez];refine Fh (B:=w4.heap.size) (wr:=wd) (w11:=w11) m2 (by omega) bD.out.2 vE.out hown dy (PL.below (OZ.refl _ _) (λy hy=>⟨by have:=zh.out;omega,hy.2⟩) f _ _ kZ) (by rw [j5,zj];exact P6 _) (λy h1 h2 h3=>(gZ y h3).trans (qX y h1 h2)) ?_;rw [gZ _ (by have:=bD.out;have:=dy.size;omega)];exact zi
 clear hA zi qX qY j5 gZ ku gB zh;go_wp2;rw [<-hV];refine Qv (v:= .tuple #[.agg #[.int .i64 3,.int .i64 0,.slice ad2 pl cap2,.slice ca cl cc,.slice (some ⟨w11.heap.size+1,0,none⟩) 1 1],.int .i64 lv]) (by simp [results,Tryz.results23,go_sem,u0,u1,u2,u3,u4]) rfl ?_;exact bP.out
theorem vf1 (k:Kn)(fs:List Pu)(f:Nat)(R:List Rw)(ak:List (List Nat)):Q4 k fs f 5000 R ak=none:=by
 cases f with
 | zero=>rfl
 | succ f=>
  unfold Q4;rw [Pc (P6 _)]
theorem K7 {k:Kn}{fs:List Pu}{fa:Option Addr}{fc:Nat}(aF:Po 0 [] fs=some k)(aY:fs.length<=10000):∀f,YA k fs fa fc f
 | 0=>λn R ak rv av S w h=>by
  have h1:=h.fuel;have h2:=h.cnt;omega
 | f+1=>λn R ak rv av S w h=>by
  have IH:=K7 (fa:=fa) (fc:=fc) aF aY f;have h2:=h.cnt;by_cases hn:n<5000
  ·cases R with
   | nil=>
    obtain ⟨ra,rc,rfl⟩:=Pd.len h.rows;exact VV hn
   | cons r R'=>
    have hw:=h.rp.wid r (by simp);have hm:=h.rp.many;cases hc:r.2.findIdx? (λp=> !Pm p) with
    | none=>exact Y1 h.set h.rows (by have:=h.fuel;omega) hn hc
    | some c=>
     obtain ⟨bg,hp,_⟩:=SP.1 hc;have hwp:Pm r.2[c]=false:=by simpa using hp
     have hs:((r.1,r.2[c]):Sp)∈Pq c (r::R'):=by
      rw [TQ];exact SE.2 ⟨r,by simp,Uo.2 ⟨rfl,PR _,hwp⟩⟩
     have um:=(SF (h.rp.right c).together _ hs _ hs).2.1;rcases P' um with h3 | h4
     ·exact VU (SJ aF) IH h hn bg hc h3
     exact UI aF aY IH h hn bg hc h4
  obtain rfl:n=5000:=by omega
  have:=Wv (fa:=fa) (fc:=fc) (rv:=rv) (av:=av) (w:=w) (vf1 k fs (f+1) R ak);simpa using this
