import Derived.Test.YtpdmkhnonbbhnaaGreatMox
import Derived.Test.YtpdmkhnonbbhnaaGreatVl
namespace Go.Proofs.YtpdmkhnonbbhnaaGreat
open Go.RowKit Go.Maps
set_option maxHeartbeats 8000000
set_option maxRecDepth 10000
set_option linter.unusedSimpArgs false
section
variable {k:Kn}{fs:List Pu}
theorem JS {κ α:Type}:∀{R:List (κ×α)},(R.map (·.1)).Nodup->∀{r s:κ×α},r∈R->s∈R->r.1=s.1->r=s
 | a::R,h,r,s,hr,hs,e=>by
  rw [Re,U6] at h;rcases Qa.1 hr with e1 | tr
  ·rcases Qa.1 hs with e2 | jK
   ·rw [e1,e2]
   exact absurd (PI.2 ⟨s,jK,e.symm.trans (by rw [e1])⟩) h.1
  rcases Qa.1 hs with e2 | jK
  ·exact absurd (PI.2 ⟨r,tr,e.trans (by rw [e2])⟩) h.1
  exact JS h.2 tr jK e
theorem JP {i:Nat}:∀(ns:List Qg) (xs:List Int) (p:Nat) (k k':Kn),Qt i k p ns xs=some k'->(∀e∈k,e∈k')/\((k.map (·.1)).Nodup->(k'.map (·.1)).Nodup)/\∀(j:Nat) (nm:Qg),ns[j]? =some nm->∃y,xs[j]? =some y/\0<=y/\(nm,i,p+j,y.toNat)∈k'
 | [],_,p,k,k',h=>by
  unfold Qt at h;obtain rfl:=Qs h;exact ⟨λe he=>he,λh=>h,λj nm hj=>by simp at hj⟩
 | n::ns,[],p,k,k',h=>by unfold Qt at h;cases h
 | n::ns,x::xs,p,k,k',h=>by
  unfold Qt at h;split at h
  ·cases h
  rename_i hc;obtain ⟨h1,h2,h3⟩:=JP ns xs (p+1) _ k' h;refine ⟨λe he=>h1 e (Fm _ he),λhn=>h2 ?_,λj nm hj=> ?_⟩
  ·rw [R6,S7];refine ⟨hn,by simp,λa ha b hb=> ?_⟩;obtain ⟨e,he,rfl⟩:=PI.1 ha;obtain rfl:b=n:=by simpa using hb
   exact λq=>hc (.inr (.inl ⟨e,he,q⟩))
  cases j with
  | zero=>
   obtain rfl:n=nm:=by simpa using hj
   exact ⟨x,rfl,by have:=λq=>hc (.inr (.inr (.inl q)));omega,h1 _ (List.mem_append_right _ (by simp))⟩
  | succ j=>
   obtain ⟨y,h4,h5,h6⟩:=h3 j nm (by simpa using hj);exact ⟨y,by simpa using h4,h5,by rw [show p+(j+1)=p+1+j by omega];exact h6⟩
theorem pr0:∀(fs:List Pu) (i:Nat) (k k':Kn),Po i k fs=some k'->(∀e∈k,e∈k')/\((k.map (·.1)).Nodup->(k'.map (·.1)).Nodup)/\∀(a:Nat) (f:Pu),fs[a]? =some f->∀(j:Nat) (nm:Qg),f.1[j]? =some nm->∃y,f.2[j]? =some y/\0<=y/\(nm,i+a,j,y.toNat)∈k'
 | [],i,k,k',h=>by
  unfold Po at h;obtain rfl:=Qs h;exact ⟨λe he=>he,λh=>h,λa f hf=>by simp at hf⟩
 | f::fs,i,k,k',h=>by
  unfold Po at h;split at h
  ·cases h
  obtain ⟨k1,dY,hk2⟩:=NP.1 h;obtain ⟨a1,a2,a3⟩:=JP f.1 f.2 0 k k1 dY;obtain ⟨b1,b2,b3⟩:=pr0 fs (i+1) k1 k' hk2;refine ⟨λe he=>b1 e (a1 e he),λhn=>b2 (a2 hn),λa g hg j nm hj=> ?_⟩;cases a with
  | zero=>
   obtain rfl:f=g:=by simpa using hg
   obtain ⟨y,h4,h5,h6⟩:=a3 j nm hj;exact ⟨y,h4,h5,b1 _ (by rw [Rp] at h6;exact h6)⟩
  | succ a=>
   obtain ⟨y,h4,h5,h6⟩:=b3 a g (by simpa using hg) j nm hj;exact ⟨y,h4,h5,by rw [show i+(a+1)=i+1+a by omega];exact h6⟩
theorem us1 (hn:(k.map (·.1)).Nodup){nm:Qg}{e:Nat×Nat×Nat}(h:(nm,e)∈k):look k nm=some e:=by
 obtain ⟨d,hd⟩:∃d,look k nm=some d:=by
  unfold look;cases hq:k.find? λe=>e.1==nm with
  | some e=>exact ⟨_,rfl⟩
  | none=>exact absurd (Ec.1 hq _ h) (by simp)
 rw [hd,(Prod.mk.inj (JS hn (Su hd) h rfl)).2]
theorem UE (h:Po 0 [] fs=some k){a j:Nat}{f:Pu}{nm:Qg}(hf:fs[a]? =some f)(hj:f.1[j]? =some nm):∃y,f.2[j]? =some y/\0<=y/\look k nm=some (a,j,y.toNat):=by
 obtain ⟨_,h2,h3⟩:=pr0 fs 0 [] k h;obtain ⟨y,h4,h5,h6⟩:=h3 a f hf j nm hj;exact ⟨y,h4,h5,us1 (h2 Vr) (by rw [Rp] at h6;exact h6)⟩
theorem AF {R:List Rw}{c:Nat}{nm:Qg}:R.any (Sc c nm)=true↔∃r∈R,∃p,r.2[c]? =some p/\p.kind=4/\p.name=nm:=by
 rw [UG];constructor
 ·rintro ⟨r,hr,h⟩;unfold Sc at h;cases hp:r.2[c]? with
  | none=>rw [hp] at h;cases h
  | some p=>
   rw [hp] at h;simp only [Tj,WY] at h;exact ⟨r,hr,p,hp,h.1,h.2⟩
 rintro ⟨r,hr,p,hp,h4,hn⟩;refine ⟨r,hr,?_⟩;unfold Sc;rw [hp];simp [h4,hn]
theorem ut1 (aF:Po 0 [] fs=some k){R:List Rw}{c:Nat}(ht:together k (Pq c R)=true){s0:Sp}(h0:s0∈Pq c R)(h4:s0.2.kind=4){fi:Nat}{F:Pu}(hF:fs[fi]? =some F){j0:Nat}(hj:F.1[j0]? =some s0.2.name):Pg k (Pq c R)=(F.1.filter λnm=>R.any (Sc c nm)).map λnm=>((nm,0):Cs):=by
 have hk:=SJ aF;obtain ⟨f1,f2⟩:=TS k (Pq c R) (Uf hk ht);have hl:∀j nm,F.1[j]? =some nm->∃y,look k nm=some (fi,j,y):=λj nm h=>by
  obtain ⟨y,_,_,hy⟩:=UE aF hF h;exact ⟨_,hy⟩
 have iE:∀j nm,F.1[j]? =some nm->(O' k nm).1=fi/\(O' k nm).2.1=j:=λj nm h=>by
  obtain ⟨y,hy⟩:=hl j nm h;unfold O';rw [hy];exact ⟨rfl,rfl⟩
 refine NM k _ _ f1 ?_ λx=> ?_
 ·rw [Yu];refine List.Pairwise.filter _ ?_;rw [NS];intro i j hi hj mF;rw [UD];left;have e1:=iE i F.1[i] (PR hi);have e2:=iE j F.1[j] (PR hj);dsimp only;rw [e1.2,e2.2];exact mF
 rw [f2];constructor
 ·intro hx;obtain ⟨s,hs,rfl⟩:=PI.1 hx;obtain ⟨g1,g2,g3⟩:=SF ht s hs s0 h0;have hk4:s.2.kind=4:=g1.trans h4;have tU:(O' k s.2.name).1=fi:=(g3 h4).trans (iE j0 _ hj).1;obtain ⟨d,hd,au5,Dt⟩:=Tg g2 hk4;have bo:=MU aF _ (Su hd);obtain ⟨F',yN,hlt⟩:=bo;have Bu:d.1=fi:=by rw [<-tU,Dt]
  rw [show (s.2.name,d).2.1=fi from Bu,hF] at yN;obtain rfl:=Qs yN;have fx:F.1[d.2.1]? =some F.1[d.2.1]:=PR hlt;have e1:=iE d.2.1 _ fx;obtain ⟨y,hy⟩:=hl d.2.1 _ fx;have nR:F.1[d.2.1]=s.2.name:=hk.place _ (Su hy) _ (Su hd) (by dsimp only;exact Bu.symm) rfl;rw [TQ] at hs;obtain ⟨r,hr,e⟩:=SE.1 hs;obtain ⟨q1,q2,q3⟩:=Uo.1 e;refine PI.2 ⟨s.2.name,Sq.2 ⟨by rw [<-nR];exact Px hlt,AF.2 ⟨r,hr,s.2,q2,hk4,rfl⟩⟩,?_⟩;rw [PA,Pc hk4]
 intro hx;obtain ⟨nm,hn,rfl⟩:=PI.1 hx;obtain ⟨_,eY⟩:=Sq.1 hn;obtain ⟨r,hr,p,e1,e2,e3⟩:=AF.1 eY;have hw:Pm p=false:=by
  unfold Pm;rw [e2]
  decide
 refine PI.2 ⟨(r.1,p),?_,by rw [PA,Pc e2,e3]⟩;rw [TQ];exact SE.2 ⟨r,hr,Uo.2 ⟨rfl,e1,hw⟩⟩
theorem EK (k:Kn)(c:Nat){nm:Qg}(am:nm≠[])(R:List Rw):QJ k R c (nm,0)=Pw (T3 c nm (O' k nm).2.2) c R:=by
 unfold QJ Pw;refine Vb λr _=> ?_
 congr 1
 unfold TU T3;cases r.2[c]? with
 | none=>rfl
 | some p=>
  dsimp only;cases Pm p with
  | true=>rfl
  | false=>
   show (if Pk (nm,0) (r.1,p)=true then _ else _)=if (p.name==nm)=true then _ else _
   have:Pk (nm,0) (r.1,p)=(p.name==nm):=by unfold Pk;rw [P7 am]
   rw [this,P7 am]
end
section
variable {i c n f T:Nat}{fs:List Pu}{R:List Rw}{l:List Qg}{k:Kn}{w wr:World}
theorem UC:∀(fs:List Pu) (i:Nat) (k k':Kn),Po i k fs=some k'->∀f∈fs,f.1.length<=24/\f.2.length=f.1.length
 | [],_,_,_,_,f,hf=>by simp at hf
 | g::fs,i,k,k',h,f,hf=>by
  unfold Po at h;by_cases hb:g.1.length=0\/24<g.1.length\/g.2.length≠g.1.length
  ·rw [Pc hb] at h;cases h
  rw [P7 hb,NP] at h;obtain ⟨k2,_,h2⟩:=h;rcases Qa.1 hf with rfl | hf
  ·exact ⟨by omega,by omega⟩
  exact UC fs _ _ _ h2 f hf
theorem LK (aF:Po 0 [] fs=some k){p:Pt}(hp:Q8 k p=true)(h4:p.kind=4):∃(fi:Nat) (F:Pu) (j:Nat),fs[fi]? =some F/\F.1[j]? =some p.name:=by
 obtain ⟨d,hd,_,_⟩:=Tg hp h4;have hk:=SJ aF;obtain ⟨F,hF,hlt⟩:=MU aF _ (Su hd);have fx:F.1[d.2.1]? =some F.1[d.2.1]:=PR hlt;obtain ⟨y,_,_,hy⟩:=UE aF hF fx;have nR:F.1[d.2.1]=p.name:=hk.place _ (Su hy) _ (Su hd) rfl rfl;exact ⟨d.1,F,d.2.1,hF,by rw [fx,nR]⟩
theorem Jr {S:Nat->Prop}{fa:Option Addr}{fc:Nat}(h:PH w S (.slice fa n fc) fs){fi:Nat}{F:Pu}(hF:fs[fi]? =some F)(h1:F.1≠[])(h2:F.2.length=F.1.length):∃gf of gs os sc gi oi ic,fa=some ⟨gf,of,none⟩/\fs.length<=fc/\S gf/\S gs/\S gi/\F.1.length<=sc/\F.2.length<=ic/\w.cell? ⟨gf,of+fi*2,none⟩=some (.slice (some ⟨gs,os,none⟩) F.1.length sc)/\w.cell? ⟨gf,of+fi*2+1,none⟩=some (.slice (some ⟨gi,oi,none⟩) F.2.length ic)/\(∀j (h:j<F.1.length),w.cell? ⟨gs,os+j,none⟩=some (.string ⟨F.1[j].toArray⟩)/\F.1[j].length<140737488355328)/\∀j (h:j<F.2.length),w.cell? ⟨gi,oi+j,none⟩=some (.int .i64 F.2[j]):=by
 obtain ⟨hlt,rfl⟩:=Tt.1 hF;rcases h with ⟨e,_⟩ | ⟨gf,of,xj,e,_,hc,hr⟩
 ·rw [e] at hlt;simp at hlt
 injection e with e1 _ e3;subst e1 e3;obtain ⟨sg,⟨sa,sc,c1,hs⟩,ia,ic,c2,hi⟩:=hr fi hlt;rcases hs with ⟨e,_⟩ | ⟨gs,os,ag7,e,_,pN,hs⟩
 ·exact absurd e h1
 injection e with e1 _ e3;subst e1 e3;rcases hi with ⟨e,_⟩ | ⟨gi,oi,ag5,e,am,hc2,hi⟩
 ·exact absurd (by rw [e] at h2;exact Yd h2.symm) h1
 injection e with e1 _ e3;subst e1 e3;have p1:0<fs[fi].1.length:=Tk.2 h1;refine ⟨gf,of,gs,os,sc,gi,oi,ic,rfl,hc,sg,(hs 0 p1).1,(hi 0 (by omega)).1,pN,hc2,c1,c2,λj hj=> ?_,λj hj=> ?_⟩
 ·have:=hs j hj;rw [R4] at this;exact this.2
 have:=hi j hj;rw [R4] at this;exact this.2
theorem Cz.on {step:Cs->Nat->Option (Tr f×Nat)}{cs:List Cs}{pv:Value}{W:World}{m:Nat}{cv:Value}{w':World}(h:Cz f step cs n T pv W i m cv wr)(hT:T<W.heap.size)(hb:Below wr.heap.size wr w'):Cz f step cs n T pv W i m cv w':=by
 obtain ⟨ts,e1,hown⟩:=h.made;have hs:=h.keep.size;exact ⟨h.keep.trans (Kx.of hb),(hb.block T (by omega)).trans h.blk,⟨ts,e1,hown.on No.lt hs hb⟩,h.cnt⟩
def QO (R:List Rw)(c:Nat)(l:List Qg)(i:Nat):List Cs:=((l.take i).filter λnm=>R.any (Sc c nm)).map λnm=>((nm,0):Cs)
theorem vb1 (hi:i<l.length):QO R c l (i+1)=QO R c l i++(if R.any (Sc c l[i]) then [(l[i],0)] else []):=by
 unfold QO;rw [S1,PR hi,ZM,R6]
 congr 1
 show List.map _ (List.filter _ [l[i]])=_;rw [OK];by_cases h:R.any (Sc c l[i])=true
 ·rw [Pc h,Pc h]
  rfl
 rw [P7 h,P7 h]
 rfl
theorem qj0:(QO R c l i).length<=l.length:=by
 unfold QO;rw [Qb];exact PZ (T8 _ _) (by rw [RW];omega)
theorem vc1:∃rest,QO R c l l.length=QO R c l i++rest:=by
 refine ⟨((l.drop i).filter λnm=>R.any (Sc c nm)).map λnm=>((nm,0):Cs),?_⟩;unfold QO;rw [QM,<-R6,<-ZM,Ug]
theorem vd1 (aF:Po 0 [] fs=some k){fi:Nat}{F:Pu}(hF:fs[fi]? =some F)(DQ:F.1≠[])(R:List Rw)(c:Nat):Ss k fs (QO R c F.1 F.1.length)=decide ((QO R c F.1 F.1.length).length=F.1.length):=by
 cases hp:QO R c F.1 F.1.length with
 | nil=>
  have:F.1.length≠0:=λe=>DQ (Yd e);show false=_;rw [eq_comm,La];exact λe=>this e.symm
 | cons x l=>
  have hx:x∈QO R c F.1 F.1.length:=by rw [hp];simp
  unfold QO at hx;obtain ⟨nm,hn,rfl⟩:=PI.1 hx;have hn:=(Sq.1 hn).1;rw [QM] at hn;obtain ⟨j,hj,rfl⟩:=RO hn;obtain ⟨y,_,_,hy⟩:=UE aF hF (PR hj);have am:=(SJ aF).name _ (Su hy);have hl:(O' k F.1[j]).1=fi:=by unfold O';rw [hy];rfl
  unfold Ss;dsimp only;rw [hl,hF];dsimp only;have:(F.1[j] !=([]:Qg))=true:=by simpa using am
  rw [this,G1];by_cases e:((F.1[j],(0:Int))::l).length=F.1.length
  ·rw [T7 e];simpa using e
  rw [Ti e];simpa using e
theorem ve1 {B:Nat}{V:World}{pa:Option Addr}{pl pc:Nat}{ca:Option Addr}{cl cc:Nat}{path:List Nat}{l:List (Cs×Tr f)}(hT:w.heap.size<T)(bb4:T<B)(hB:B<=wr.heap.size)(hp:Pv wr (λy=>w.heap.size<y/\y<T) (.slice pa pl pc) path)(hc:Pi (RY f) 53 B No wr (.slice ca cl cc) l)
  (hs:V.heap.size=wr.heap.size) (hV:∀y,y≠w.heap.size->V.heap[y]? =wr.heap[y]?):
  PL V (λy=>w.heap.size<=y/\y<V.heap.size) (f+1) (.agg #[.int .i64 3,.int .i64 0,.slice pa pl pc,.slice ca cl cc,.slice none 0 0]) ((3,0,path),l,[]):=by
 obtain ⟨pa',pc',e1⟩:=Pd.len hp;injection e1 with e1 e2 e3;subst e1 e3;obtain ⟨ca',cc',e4⟩:=Own.len hc;injection e4 with e4 e5 e6;subst e4 e6;refine ⟨pa,pc,ca,cc,none,0,by rw [e2,e5];rfl,?_,?_,.inl ⟨rfl,none,0,rfl⟩⟩
 ·rw [e2] at hp;exact (hp.on λy hy=>hV y (by omega)).up λy hy=>⟨by omega,by omega⟩
 rw [e5] at hc;refine PC.cases (S:=λy=>No y\/(B<=y/\y<wr.heap.size)) ((Pi.rowE hc).on (λy hy=>hV y (by omega)) (λy hy=> ?_) (λ_ h=>h) λ_ h=>h) (λy hy=>⟨by omega,by omega⟩) λy hy=> ?_
 ·rcases hy with hy | hy
  ·exact hy.elim
  exact hV y (by omega)
 rcases hy with hy | hy
 ·exact hy.elim
 exact ⟨by omega,by omega⟩
end
section
variable {k:Kn}{fs:List Pu}
def nw (ps:List Pt):List Sp:=(ps.filter λp=> !Pm p).map λp=>(0,p)
def Qe (k:Kn):List Pt->Int->Option Int
 | [],s=>some s
 | p::r,s=>if Pm p then Qe k r s
  else if p.kind=3 then (if 0<=s\/p.num< -4611686018427387904\/4611686018427387903<p.num then none else Qe k r (-2))
  else if p.kind=4 then match look k p.name with
   | none=>none
   | some c=>if s= -2\/(0<=s/\s≠(c.1:Int))\/p.kids.length≠c.2.2 then none else Qe k r c.1
  else none
def S3 (nm:Qg)(n:Nat)(ps:List Pt):List Pt:=(ps.filter λp=>p.kind==4 && p.name==nm).filterMap λp=>p.kids[n]?
def Sd (k:Kn)(p:Pt):Int:=if p.kind=3 then-2 else ((O' k p.name).1:Int)
theorem Zc (k:Kn):∀(ps:List Pt) (s s':Int),-2<=s->Qe k ps s=some s'->(∀p∈ps,Pm p=false->Q8 k p=true/\Sd k p=s')/\(s= -1\/s'=s)/\-2<=s'
 | [],s,s',h2,h=>by
  have:s=s':=by simpa [Qe] using h
  subst this;exact ⟨by simp,.inr rfl,h2⟩
 | p::r,s,s',h2,h=>by
  unfold Qe at h;by_cases hw:Pm p=true
  ·rw [Pc hw] at h;obtain ⟨a,b,c⟩:=Zc k r s s' h2 h;refine ⟨λq hq tV=> ?_,b,c⟩;rcases Qa.1 hq with rfl | hq
   ·rw [hw] at tV;cases tV
   exact a q hq tV
  rw [P7 hw] at h;by_cases h3:p.kind=3
  ·rw [Pc h3] at h;by_cases hb:0<=s\/p.num< -4611686018427387904\/4611686018427387903<p.num
   ·rw [Pc hb] at h;cases h
   rw [P7 hb] at h;obtain ⟨a,b,c⟩:=Zc k r (-2) s' (by omega) h;have e:s'= -2:=by omega
   refine ⟨λq hq tV=> ?_,by omega,c⟩;rcases Qa.1 hq with rfl | hq
   ·refine ⟨?_,by unfold Sd;rw [Pc h3,e]⟩;unfold Q8;rw [Pc h3];simp only [Tj,M5];omega
   exact a q hq tV
  rw [P7 h3] at h;by_cases h4:p.kind=4
  ·rw [Pc h4] at h;cases hl:look k p.name with
   | none=>rw [hl] at h;cases h
   | some c=>
    rw [hl] at h;by_cases hb:s= -2\/(0<=s/\s≠(c.1:Int))\/p.kids.length≠c.2.2
    ·simp only [Pc hb] at h;cases h
    simp only [P7 hb] at h;obtain ⟨a,b,d⟩:=Zc k r c.1 s' (by omega) h;have e:s'=c.1:=by omega
    refine ⟨λq hq tV=> ?_,by omega,d⟩;rcases Qa.1 hq with rfl | hq
    ·refine ⟨?_,by unfold Sd O';rw [P7 h3,hl,e];rfl⟩;unfold Q8;rw [P7 h3,Pc h4,hl];have:q.kids.length=c.2.2:=by omega
     simpa using this
    exact a q hq tV
  rw [P7 h4] at h;cases h
theorem JZ (k:Kn):∀(ps:List Pt) (s t:Int),(∀p∈ps,Pm p=false->Q8 k p=true/\Sd k p=t)->(s= -1\/s=t)->∃s',Qe k ps s=some s'
 | [],s,t,_,_=>⟨s,rfl⟩
 | p::r,s,t,h,hs=>by
  have ht:=JZ k r;unfold Qe;by_cases hw:Pm p=true
  ·rw [Pc hw];exact ht s t (λq hq=>h q (RI _ hq)) hs
  rw [P7 hw];obtain ⟨hm,eY⟩:=h p (by simp) (by simpa using hw);rcases P' hm with h3 | h4
  ·have e:t= -2:=by rw [<-eY];unfold Sd;rw [Pc h3]
   unfold Q8 at hm;rw [Pc h3] at hm;simp only [Tj,M5] at hm;rw [Pc h3,P7 (by omega)];exact ht (-2) t (λq hq=>h q (RI _ hq)) (.inr e.symm)
  obtain ⟨c,h5,h6,h7⟩:=Tg hm h4;have h3:¬p.kind=3:=by omega
  have e:t=c.1:=by rw [<-eY];unfold Sd;rw [P7 h3,h7]
  rw [P7 h3,Pc h4,h5];simp only;rw [P7 (by omega)];exact ht c.1 t (λq hq=>h q (RI _ hq)) (.inr e.symm)
theorem JV {ps:List Pt}{s:Sp}:s∈nw ps↔s.1=0/\s.2∈ps/\Pm s.2=false:=by
 unfold nw;rw [PI];constructor
 ·rintro ⟨p,hp,rfl⟩;obtain ⟨h1,h2⟩:=Sq.1 hp;exact ⟨rfl,h1,by simpa using h2⟩
 rintro ⟨h1,h2,h3⟩;exact ⟨s.2,Sq.2 ⟨h2,by simp [h3]⟩,by rw [<-h1]⟩
theorem OA {af:List Sp}:together k af=true↔∃t,∀s∈af,Q8 k s.2=true/\Sd k s.2=t:=by
 constructor
 ·intro h;cases af with
  | nil=>exact ⟨0,by simp⟩
  | cons f r=>
   refine ⟨Sd k f.2,λs hs=> ?_⟩;obtain ⟨h1,h2,h3⟩:=SF h s hs f (by simp);refine ⟨h2,?_⟩;unfold Sd;by_cases e:f.2.kind=3
   ·rw [Pc e,Pc (h1.trans e)]
   have e4:f.2.kind=4:=by
    rcases P' h2 with x | x
    ·rw [h1] at x;exact absurd x e
    rw [<-h1];exact x
   rw [P7 e,P7 (by rw [h1];exact e),h3 e4]
 rintro ⟨t,h⟩;refine qw0 λs hs u hu=> ?_;obtain ⟨a1,a2⟩:=h s hs;obtain ⟨b1,b2⟩:=h u hu;rw [<-b2] at a2;unfold Sd at a2;rcases P' a1 with x | x<;>rcases P' b1 with y | y
 ·exact ⟨by rw [x,y],a1,λe=>by omega⟩
 ·rw [Pc x,P7 (by omega)] at a2;omega
 ·rw [P7 (by omega),Pc y] at a2;omega
 rw [P7 (by omega),P7 (by omega)] at a2;exact ⟨by rw [x,y],a1,λ_=>by omega⟩
theorem pv0 (hk:KnOk k fs)(af:List Sp):PU k af↔together k af=true/\∀s∈af,s.2.kind=4->∀n,n<(O' k s.2.name).2.2->PU k (Pq n (RX (af.filter λx=>x.2.name==s.2.name))):=by
 rw [ND];constructor
 ·rintro ⟨h1,h2⟩;refine ⟨h1,λs hs h4 n hn=> ?_⟩;have hc:((s.2.name,0):Cs)∈Pg k af:=((TS k af (Uf hk h1)).2 _).2 (PI.2 ⟨s,hs,by unfold PA;rw [Pc h4]⟩);obtain ⟨e,h5,_⟩:=Tg (SF h1 s hs s hs).2.1 h4;have am:s.2.name≠[]:=hk.name _ (Su h5);have hf:(af.filter λx=>x.2.name==s.2.name)=af.filter (Pk (s.2.name,0)):=by
   refine congrArg (List.filter · af) (funext λx=> ?_);unfold Pk;rw [P7 am]
  rw [hf];by_cases hz:Pq n (RX (af.filter (Pk (s.2.name,0))))=[]
  ·rw [hz];exact NG k
  exact h2 _ hc ([],n,_) (UH.2 ⟨n,hn,hz,rfl⟩)
 rintro ⟨h1,h2⟩;refine ⟨h1,λc hc col bA=> ?_⟩;obtain ⟨n,hn,_,rfl⟩:=UH.1 bA;obtain ⟨s,hs,rfl⟩:=PI.1 (((TS k af (Uf hk h1)).2 _).1 hc);unfold PA at hn⊢;by_cases h4:s.2.kind=4
 ·rw [Pc h4] at hn⊢;obtain ⟨e,h5,_⟩:=Tg (SF h1 s hs s hs).2.1 h4;have am:s.2.name≠[]:=hk.name _ (Su h5);have hf:(af.filter λx=>x.2.name==s.2.name)=af.filter (Pk (s.2.name,0)):=by
   refine congrArg (List.filter · af) (funext λx=> ?_);unfold Pk;rw [P7 am]
  have:=h2 s hs h4 n hn;rw [hf] at this;exact this
 rw [P7 h4,Xr hk] at hn;exact absurd hn (WP _)
theorem Ot (n:Nat)(q:Pt->Bool):∀a:List Sp,(Pq n (RX (a.filter λs=>q s.2))).map (·.2)=((a.map (·.2)).filter q).filterMap λp=>match p.kids[n]? with
  | some u=>if Pm u then none else some u
  | none=>none
 | []=>rfl
 | s::r=>by
  have ih:=Ot n q r;by_cases hq:q s.2=true
  ·rw [X0 (by exact hq),Re,X0 (by exact hq)];unfold Pq RX at ih⊢;rw [Re,Ui,Ui];dsimp only;cases hu:s.2.kids[n]? with
   | none=>exact ih
   | some u=>
    dsimp only;by_cases hw:Pm u=true
    ·rw [Pc hw,Pc hw];exact ih
    rw [P7 hw,P7 hw,Re,ih]
  rw [X1 (by exact hq),Re,X1 (by exact hq)];exact ih
theorem JQ {k:Kn}{fs:List Pu}(hk:KnOk k fs):∀(d:Nat) (a b:List Sp),(∀s∈a,s.2.1<=d)->a.map (·.2)=b.map (·.2)->PU k a->PU k b
 | 0,a,b,hd,e,h=>by
  cases a with
  | nil=>
   cases b with
   | nil=>exact h
   | cons s r=>simp at e
  | cons s r=>have:=hd s (by simp);have:=s.2.depth_pos;omega
 | d+1,a,b,hd,e,h=>by
  rw [pv0 hk] at h⊢;have hm:∀s∈b,∃s'∈a,s'.2=s.2:=λs hs=>by
   have:s.2∈a.map (·.2):=by rw [e];exact PI.2 ⟨s,hs,rfl⟩
   obtain ⟨s',h1,h2⟩:=PI.1 this;exact ⟨s',h1,h2⟩
  constructor
  ·obtain ⟨t,ht⟩:=OA.1 h.1;refine OA.2 ⟨t,λs hs=> ?_⟩;obtain ⟨s',h1,h2⟩:=hm s hs;rw [<-h2];exact ht s' h1
  intro s hs h4 n hn;obtain ⟨s',h1,h2⟩:=hm s hs;have:=h.2 s' h1 (by rw [h2];exact h4) n (by rw [h2];exact hn);rw [h2] at this;refine JQ hk d _ _ (λx hx=> ?_) ?_ this
  ·obtain ⟨t,ht,_,bU,_⟩:=OW hx;have h3:=Pt.kids_lt bU;have h4:=hd t (Sq.1 ht).1;omega
  rw [Ot n (λp=>p.name==s.2.name) a,Ot n (λp=>p.name==s.2.name) b,e]
theorem MB (hk:KnOk k fs){a b:List Sp}(e:a.map (·.2)=b.map (·.2)):PU k a↔PU k b:=by
 have hd:∀l:List Sp,∃d,∀s∈l,s.2.1<=d:=λl=>by
  induction l with
  | nil=>exact ⟨0,by simp⟩
  | cons x r ih=>
   obtain ⟨d,h⟩:=ih;refine ⟨max d x.2.1,λs hs=> ?_⟩;rcases Qa.1 hs with rfl | hs
   ·exact Nat.le_max_right _ _
   exact PZ (h s hs) (Nat.le_max_left _ _)
 obtain ⟨d1,h1⟩:=hd a;obtain ⟨d2,h2⟩:=hd b;exact ⟨JQ hk d1 a b h1 e,JQ hk d2 b a h2 e.symm⟩
theorem JF (ps:List Pt):(nw ps).map (·.2)=ps.filter λp=> !Pm p:=by
 unfold nw;rw [TL];exact List.map_id _
theorem N1 (nm:Qg)(n:Nat):∀(ps:List Pt),(∀p∈ps,Pm p=false->p.kind=4)->(nw (S3 nm n ps)).map (·.2)=(Pq n (RX ((nw ps).filter λx=>x.2.name==nm))).map (·.2)
 | [],_=>rfl
 | p::r,h=>by
  have ih:=N1 nm n r λq hq=>h q (RI _ hq);rw [Ot n (λp=>p.name==nm),JF,JF] at ih⊢;by_cases hw:Pm p=true
  ·have cd5:¬(p.kind==4 && p.name==nm)=true:=by
    intro e;simp only [Tj,WY] at e;unfold Pm at hw;rw [e.1] at hw;simp at hw
   unfold S3 at ih⊢;rw [X1 (a:=p) (p:=λp=>p.kind==4 && p.name==nm) cd5,X1 (a:=p) (p:=λp=> !Pm p) (by simp [hw])];exact ih
  have h4:=h p (by simp) (by simpa using hw);rw [X0 (a:=p) (p:=λp=> !Pm p) (by simpa using hw)];unfold S3 at ih⊢;by_cases hn:(p.name==nm)=true
  ·rw [X0 (a:=p) (p:=λp=>p.kind==4 && p.name==nm) (by simp [h4];simpa using hn),X0 (a:=p) (p:=λp=>p.name==nm) hn,Ui,Ui];cases hu:p.kids[n]? with
   | none=>exact ih
   | some u=>
    dsimp only;by_cases yO:Pm u=true
    ·rw [Pc yO,X1 (by simp [yO])];exact ih
    rw [P7 yO,X0 (by simpa using yO),ih]
  rw [X1 (a:=p) (p:=λp=>p.kind==4 && p.name==nm) (by simp [h4];simpa using hn),X1 (a:=p) (p:=λp=>p.name==nm) hn];exact ih
theorem XN (aF:Po 0 [] fs=some k)(ps:List Pt):PU k (nw ps)↔∃s,Qe k ps (-1)=some s/\(0<=s->∀F,fs[s.toNat]? =some F->∀(j:Nat) (nm:Qg),F.1[j]? =some nm->∀n,n<(O' k nm).2.2->PU k (nw (S3 nm n ps))):=by
 have hk:=SJ aF;rw [pv0 hk];constructor
 ·rintro ⟨h1,h2⟩;obtain ⟨t,ht⟩:=OA.1 h1;obtain ⟨s,hs⟩:=JZ k ps (-1) t (λp hp hw=>ht (0,p) (JV.2 ⟨rfl,hp,hw⟩)) (.inl rfl);obtain ⟨h3,_,_⟩:=Zc k ps (-1) s (by omega) hs;refine ⟨s,hs,λh0 F hF j nm hj n hn=> ?_⟩;have h4:∀p∈ps,Pm p=false->p.kind=4:=λp hp hw=>by
   obtain ⟨a,b⟩:=h3 p hp hw;rcases P' a with x | x
   ·unfold Sd at b;rw [Pc x] at b;omega
   exact x
  rw [MB hk (N1 nm n ps h4)];by_cases he:∃p∈ps,Pm p=false/\p.name=nm
  ·obtain ⟨p,hp,hw,rfl⟩:=he;exact h2 (0,p) (JV.2 ⟨rfl,hp,hw⟩) (h4 p hp hw) n hn
  have:((nw ps).filter λx=>x.2.name==nm)=[]:=by
   rw [List.filter_eq_nil_iff];intro x hx e;obtain ⟨_,a,b⟩:=JV.1 hx;exact he ⟨x.2,a,b,by simpa using e⟩
  rw [this];exact NG k
 rintro ⟨s,hs,h⟩;obtain ⟨h3,_,_⟩:=Zc k ps (-1) s (by omega) hs;refine ⟨OA.2 ⟨s,λx hx=> ?_⟩,λx hx vZ n hn=> ?_⟩
 ·obtain ⟨_,a,b⟩:=JV.1 hx;exact h3 _ a b
 obtain ⟨_,hp,hw⟩:=JV.1 hx;obtain ⟨hm,eY⟩:=h3 _ hp hw;have e:s=(O' k x.2.name).1:=by rw [<-eY];unfold Sd;rw [P7 (by omega)]
 have h4:∀p∈ps,Pm p=false->p.kind=4:=λp hp hw=>by
  obtain ⟨a,b⟩:=h3 p hp hw;rcases P' a with x | x
  ·unfold Sd at b;rw [Pc x] at b;omega
  exact x
 rw [<-MB hk (N1 x.2.name n ps h4)];obtain ⟨fi,F,j,hF,hj⟩:=LK aF hm vZ;obtain ⟨y,_,_,hl⟩:=UE aF hF hj;have hfi:(O' k x.2.name).1=fi:=by unfold O';rw [hl];rfl
 refine h (by omega) F (by rw [e,hfi];exact hF) j _ hj n hn
end
section
variable {ps:List Pt}{k:Kn}{nm:Qg}{n i:Nat}{fs:List Pu}
def ZX (k:Kn)(fs:List Pu)(D:Nat):Prop:=∀(w:World) (S:Nat->Prop) (fa:Option Addr) (fc:Nat) (pv:Value) (ps:List Pt),(∀b,S b->b<w.heap.size)->PH w S (.slice fa fs.length fc) fs->Pl w S pv ps->ps.length<=200->(∀p∈ps,p.1<D)->
 Calls Tryz.prog 37 #[.slice fa fs.length fc,pv] w λr w'=>Below w.heap.size w w'/\∃b:Bool,r= .returned (.bool b)/\(b=true↔PU k (nw ps))
def JD (k:Kn)(fs:List Pu)(D:Nat):Prop:=∀(w:World) (S:Nat->Prop) (fa:Option Addr) (fc:Nat) (pv:Value) (ps:List Pt),(∀b,S b->b<w.heap.size)->PH w S (.slice fa fs.length fc) fs->Pl w S pv ps->ps.length<=200->(∀p∈ps,p.1<D)->ps≠[]->
 Calls Tryz.prog 37 #[.slice fa fs.length fc,pv] w λr w'=>Below w.heap.size w w'/\∃b:Bool,r= .returned (.bool b)/\(b=true↔PU k (nw ps))
theorem vh1 (hi:i<ps.length)(s:Int):Qe k (ps.drop i) s=Qe k (ps[i]::ps.drop (i+1)) s:=by
 rw [<-Ur hi]
theorem Ln (aF:Po 0 [] fs=some k){n:Qg}{c:Nat×Nat×Nat}(hl:look k n=some c):∃F,fs[c.1]? =some F/\F.1[c.2.1]? =some n/\F.2[c.2.1]? =some (c.2.2:Int):=by
 let q:Pt:=⟨2,((4,n,0),List.replicate c.2.2 (((1,[],0),[]):Pn 1))⟩
 have hm:Q8 k q=true:=by
  unfold Q8;have e1:q.kind=4:=rfl;have e2:q.name=n:=rfl;have e3:q.kids.length=c.2.2:=by
   exact (Qb _).trans Tq
  rw [P7 (by rw [e1];decide),Pc e1,e2,hl,e3];simp
 obtain ⟨fi,F,j,hF,hj⟩:=LK aF hm rfl;obtain ⟨y,hy,h0,yE⟩:=UE aF hF hj;have e:c=(fi,j,y.toNat):=by
  have:look k n=some (fi,j,y.toNat):=yE;rw [hl] at this;exact Qs this
 subst e;refine ⟨F,hF,hj,?_⟩;show F.2[j]? =some (y.toNat:Int);rw [hy]
 congr 1
 omega
theorem Lk {fs:List Pu}{k:Kn}(aF:Po 0 [] fs=some k){n:Qg}{w:World}{r:Ending}{w':World}(h:KO fs n w r w'):w'=w/\r=match look k n with
  | some c=> .returned (.tuple #[.int .i64 c.1,.int .i64 c.2.1])
  | none=> .returned (.tuple #[.int .i64 (-1),.int .i64 (-1)]):=by
 obtain ⟨h1,⟨i,j,f,hf,hj,hr⟩ | ⟨hno,hr⟩⟩:=h
 ·obtain ⟨y,_,_,hl⟩:=UE aF hf hj;rw [hl];exact ⟨h1,hr⟩
 refine ⟨h1,?_⟩;cases hl:look k n with
 | none=>exact hr
 | some c=>
  obtain ⟨F,hF,hj,_⟩:=Ln aF hl;exact absurd (Tf hj) (hno F (Tf hF))
theorem Nd:∀(fs:List Pu) (i:Nat) (k k':Kn),Po i k fs=some k'->∀f∈fs,f.1≠[]
 | [],_,_,_,_,f,hf=>by simp at hf
 | g::fs,i,k,k',h,f,hf=>by
  unfold Po at h;by_cases hb:g.1.length=0\/24<g.1.length\/g.2.length≠g.1.length
  ·rw [Pc hb] at h;cases h
  rw [P7 hb,NP] at h;obtain ⟨k2,_,h2⟩:=h;rcases Qa.1 hf with rfl | hf
  ·exact λe=>hb (.inl (by rw [e];rfl))
  exact Nd fs _ _ _ h2 f hf
theorem vj1 (hi:i<ps.length):S3 nm n (ps.take (i+1))=S3 nm n (ps.take i)++(if (ps[i].kind==4 && ps[i].name==nm)=true then (match ps[i].kids[n]? with | some u=> [u] | none=> []) else []):=by
 unfold S3;rw [S1,PR hi,ZM,WL]
 congr 1
 show List.filterMap _ (List.filter _ [ps[i]])=_;by_cases h:(ps[i].kind==4 && ps[i].name==nm)=true
 ·rw [Pc h,X0 (by exact h)];cases hu:ps[i].kids[n]? with
  | none=>simp [hu]
  | some u=>simp [hu]
 rw [P7 h,X1 (by exact h)]
 rfl
theorem LJ:(S3 nm n ps).length<=ps.length:=PZ (XH _ _) (T8 _ _)
theorem VK {D:Nat}(h:∀p∈ps,p.1<D+1):∀u∈S3 nm n ps,u.1<D:=λu hu=>by
 obtain ⟨p,hp,hk⟩:=SE.1 hu;have h1:=h p (Sq.1 hp).1;have h2:=Pt.kids_lt (Tf hk);omega
theorem qr0 (aF:Po 0 [] fs=some k)(aY:fs.length<=10000)(D:Nat)(IH:JD k fs D):ZX k fs (D+1):=by
 intro w S fa fc pv ps hS hF hP bo hD;obtain ⟨pa,pc,rfl⟩:=Pd.len hP;have HS:Hid (∀b,S b->b<w.heap.size):=hS;have HF:Hid (PH w S (.slice fa fs.length fc) fs):=hF;have HP:Hid (Pl w S (.slice pa ps.length pc) ps):=hP;have HK:Hid (Po 0 [] fs=some k):=aF;have HD:Hid (∀p∈ps,p.1<D+1):=hD;have cE:Hid _:=XN aF ps;have ca5:Hid (JD k fs D):=IH;have zy:Hid (∀f∈fs,f.1.length<140737488355328):=λf hf=>by have:=(UC fs 0 [] k aF f hf).1;omega
 clear hS hF hP aF hD IH;go_enter Tryz.func37,Tryz.ntmps37;go_wp2
 go_loopw [5,6] (λsv iv wr=>∃(i:Nat) (s:Int),i<=ps.length/\sv= .int .i64 s/\iv= .int .i64 i/\Hid (Below w.heap.size w wr)/\Hid (Qe k ps (-1)=Qe k (ps.drop i) s)/\-2<=s/\s<fs.length) (λ_ iv _=>ps.length-(intOf iv).toNat)
 case atStart=>exact ⟨0,-1,by omega,by go_num,by go_num,Pb _ _,rfl,by omega,by omega⟩
 obtain ⟨i,s,hi,rfl,rfl,HB,HC,bH,hs2⟩:=hrel;by_cases ag:i<ps.length
 ·have hk:OZ S w wr:=OZ.of HB.out HS.out;obtain ⟨g,o,rfl,aM,sg,a0,a1,a2,qa,qc,a3,hv⟩:=(HP.out.on hk).at ag;have i1:(0:Int)<=(i:Int):=by omega
  have i2:(i:Int)<(ps.length:Int):=by omega
  obtain ⟨W,hW⟩:∃W,W=wr.alloc (Obj.cells #[.int .i64 ps[i].kind,.string ⟨ps[i].name.toArray⟩,.int .i64 ps[i].num,.slice qa ps[i].kids.length qc] 50):=⟨_,rfl⟩;obtain ⟨an,mK⟩:=Oy hW;have CW:=Mc (hv.on (OZ.of an λb hb=>PQ (HS.out b hb) HB.out.size));have gX:Hid _:=mK;have dl:Hid (Qe k ps (-1)=Qe k (ps[i]::ps.drop (i+1)) s):=HC.out.trans (vh1 ag s);have ot:Hid (∀W',Below wr.heap.size wr W'->Calls Tryz.prog 42 #[.slice fa fs.length fc,.string ⟨ps[i].name.toArray⟩] W' λr w'=>w'=W'/\r=match look k ps[i].name with
 | some c=> .returned (.tuple #[.int .i64 c.1,.int .i64 c.2.1])
 | none=> .returned (.tuple #[.int .i64 (-1),.int .i64 (-1)])):=λW' aj=>Pe (Kq fs ps[i].name fa fc (HF.out.on (OZ.of (HB.out.trans (aj.mono HB.out.size)) HS.out)) aY zy.out) λr w' h=>Lk HK.out h
  obtain ⟨az3,E8,ce2,bq7,bd2⟩:=mK W (Pb _ _);clear hk hv mK HC an;generalize ps[i]=q at *
  go_upto_region 6 with fail
  rw [<-hW];clear hW a0 a1 a2 a3;have bB:Hid (Qe k ps (-1)=none->¬PU k (nw ps)):=λe h=>by
   obtain ⟨s,hs,_⟩:=cE.out.1 h;rw [e] at hs;cases hs
  clear az3;cases hwq:Pm q with
  | true=>
   rw [hwq] at CW;have bx:Hid (Qe k ps (-1)=Qe k (ps.drop (i+1)) s):=by
    show _=_;rw [dl.out];show (if Pm q=true then _ else _)=_;rw [Pc hwq]
   clear bB dl ot hwq
   go_wp2_with (first | (go_at_call 63;(with_reducible refine Pe CW ?_);rintro e' w2 ⟨rfl,hb2⟩;obtain ⟨az,b0,b1,b2,b3⟩:=gX.out w2 hb2))
   exact ⟨⟨i+1,s,ag,rfl,by go_num,HB.out.trans (az.mono HB.out.size),bx.out,bH,hs2⟩,by simp [intOf];omega⟩
  | false=>
   rw [hwq] at CW;have bx:Hid (Qe k ps (-1)=if q.kind=3 then (if 0<=s\/q.num< -4611686018427387904\/4611686018427387903<q.num then none else Qe k (ps.drop (i+1)) (-2)) else if q.kind=4 then match look k q.name with
  | none=>none
  | some c=>if s= -2\/(0<=s/\s≠(c.1:Int))\/q.kids.length≠c.2.2 then none else Qe k (ps.drop (i+1)) c.1
 else none):=by
    show _=_;rw [dl.out];show (if Pm q=true then _ else _)=_;rw [P7 (by rw [hwq];decide)]<;>rfl
   clear dl hwq;by_cases h3:q.kind=3
   ·rw [Pc h3] at bx;rw [h3] at gX CW E8;generalize q.num=m at *
    generalize q.name=qn at *
    generalize q.kids.length=ql at *
    clear ot h3;by_cases eh:0<=s
    ·have cY:Hid (¬PU k (nw ps)):=bB.out (by rw [bx.out,Pc (.inl eh)]);clear bx bB
     go_wp2_with (first | (go_at_call 63;(with_reducible refine Pe CW ?_);rintro e' w2 ⟨rfl,hb2⟩;obtain ⟨az,b0,b1,b2,b3⟩:=gX.out w2 hb2))
     go_ret;exact ⟨HB.out.trans (az.mono HB.out.size),false,rfl,Uy (by decide) cY.out⟩
    by_cases mC:m< -4611686018427387904
    ·have cY:Hid (¬PU k (nw ps)):=bB.out (by rw [bx.out,Pc (.inr (.inl mC))]);clear bx bB
     go_wp2_with (first | (go_at_call 63;(with_reducible refine Pe CW ?_);rintro e' w2 ⟨rfl,hb2⟩;obtain ⟨az,b0,b1,b2,b3⟩:=gX.out w2 hb2))
     go_ret;exact ⟨HB.out.trans (az.mono HB.out.size),false,rfl,Uy (by decide) cY.out⟩
    by_cases hm2:4611686018427387903<m
    ·have cY:Hid (¬PU k (nw ps)):=bB.out (by rw [bx.out,Pc (.inr (.inr hm2))]);clear bx bB
     go_wp2_with (first | (go_at_call 63;(with_reducible refine Pe CW ?_);rintro e' w2 ⟨rfl,hb2⟩;obtain ⟨az,b0,b1,b2,b3⟩:=gX.out w2 hb2))
     go_ret;exact ⟨HB.out.trans (az.mono HB.out.size),false,rfl,Uy (by decide) cY.out⟩
    have qD:Hid (Qe k ps (-1)=Qe k (ps.drop (i+1)) (-2)):=by
     show _=_;rw [bx.out,P7 (by omega)]
    clear bx bB
    go_wp2_with (first | (go_at_call 63;(with_reducible refine Pe CW ?_);rintro e' w2 ⟨rfl,hb2⟩;obtain ⟨az,b0,b1,b2,b3⟩:=gX.out w2 hb2))
    exact ⟨⟨i+1,-2,ag,rfl,by go_num,HB.out.trans (az.mono HB.out.size),qD.out,by omega,by omega⟩,by simp [intOf];omega⟩
   rw [P7 h3] at bx;by_cases h4:q.kind=4
   ·rw [Pc h4] at bx;rw [h4] at gX CW E8;clear h3 h4;generalize q.num=m at *
    cases hl:look k q.name with
    | none=>
     rw [hl] at bx;have cY:Hid (¬PU k (nw ps)):=bB.out bx.out;simp only [hl] at ot;generalize q.name=qn at *
     generalize q.kids.length=ql at *
     clear bx bB
     go_upto_region 14 with (first | (go_at_call 63;(with_reducible refine Pe CW ?_);rintro e' w2 ⟨rfl,hb2⟩;obtain ⟨az,b0,b1,b2,b3⟩:=gX.out w2 hb2))
     have pX:=ot.out w2 az
     go_upto_region 15 with (first | (go_at_call 42;(with_reducible refine Pe pX ?_);rintro e' w3 ⟨rfl,rfl⟩))
     go_region
     all_goals
      go_wp2;go_ret;exact ⟨by first | exact HB.out.trans (az.mono HB.out.size) | exact (HB.out.trans (az.mono HB.out.size)).drew,false,rfl,Uy (by decide) cY.out⟩
    | some c=>
     obtain ⟨fi,j,y⟩:=c;rw [hl] at bx;simp only [hl] at ot;obtain ⟨F,iG,hj,hy⟩:=Ln HK.out hl;dsimp only at iG hj hy;have cO:j<F.1.length:=(Tt.1 hj).1;obtain ⟨wy,zB⟩:=Tt.1 hy;have ch5:fi<fs.length:=(Tt.1 iG).1;have eO:Hid (∀W',Below wr.heap.size wr W'->PH W' S (.slice fa fs.length fc) fs):=λW' aj=>HF.out.on (OZ.of (HB.out.trans (aj.mono HB.out.size)) HS.out);have pD:Hid (fs[fi]? =some F/\F.1≠[]/\F.2.length=F.1.length):=⟨iG,λe=>by rw [e] at cO;simp at cO,(UC fs 0 [] k HK.out F (Tf iG)).2⟩;generalize q.name=qn at *
     generalize q.kids.length=ql at *
     have f1:(0:Int)<=(fi:Int):=by omega
     have f2:(fi:Int)<(fs.length:Int):=by omega
     have j1:(0:Int)<=(j:Int):=by omega
     have j2:(j:Int)<(F.2.length:Int):=by omega
     have av6:Hid (F.2[j]=(y:Int)):=zB;clear hl iG hj hy cO zB
     go_upto_region 14 with (first | (go_at_call 63;(with_reducible refine Pe CW ?_);rintro e' w2 ⟨rfl,hb2⟩;obtain ⟨az,b0,b1,b2,b3⟩:=gX.out w2 hb2))
     have pX:=ot.out w2 az;obtain ⟨gf,of,gs,os,sc,gi,oi,ic,rfl,tu,_,_,_,_,vL,d0,d1,_,d2⟩:=Jr (eO.out w2 az) pD.out.1 pD.out.2.1 pD.out.2.2;have d3:=d2 j wy;rw [av6.out] at d3;clear d0 d2 eO
     go_upto_region 15 with (first | (go_at_call 42;(with_reducible refine Pe pX ?_);rintro e' w3 ⟨rfl,rfl⟩))
     clear pX ot;have dm:Hid (Below w.heap.size w w3):=HB.out.trans (az.mono HB.out.size);have ao6:w3.drew.cell? ⟨wr.heap.size,3,none⟩=some (.slice qa ql qc):=b3;have aa6:w3.drew.cell? ⟨gf,of+fi*2+1,none⟩=some (.slice (some ⟨gi,oi,none⟩) F.2.length ic):=d1;have ax2:w3.drew.cell? ⟨gi,oi+j,none⟩=some (.int .i64 (y:Int)):=d3;have ef:decide ((fi:Int)<0)=false:=by simp
     clear b0 b1 b2 E8 ce2 bq7 bd2;by_cases hA:s= -2
     ·have cY:Hid (¬PU k (nw ps)):=bB.out (by rw [bx.out];exact Pc (.inl hA));subst hA;clear bx bB
      go_quiet (fail)
      all_goals
       go_wp2;go_ret;exact ⟨by first | exact dm.out | exact dm.out.more _,false,rfl,Uy (by decide) cY.out⟩
     have eA:(s== -2)=false:=by simpa using hA
     by_cases hN:s= -1
     ·subst hN;by_cases hq:ql=y
      ·have qD:Hid (Qe k ps (-1)=Qe k (ps.drop (i+1)) (fi:Int)):=by
        show _=_;rw [bx.out];exact P7 (by omega)
       subst hq;clear bx bB
       go_quiet (fail)
       all_goals
        go_wp2;exact ⟨⟨i+1,fi,ag,rfl,by go_num,by first | exact dm.out | exact dm.out.more _,qD.out,by omega,by omega⟩,by simp [intOf];omega⟩
      have cY:Hid (¬PU k (nw ps)):=bB.out (by rw [bx.out];exact Pc (.inr (.inr hq)));have e1:(ql==y)=false:=by simpa using hq
      have e2:((ql:Int)==(y:Int))=false:=Mh (by omega);clear bx bB
      go_quiet (fail)
      all_goals
       go_wp2;go_ret;exact ⟨by first | exact dm.out | exact dm.out.more _,false,rfl,Uy (by decide) cY.out⟩
     have mI:0<=s:=by omega
     by_cases hf:s=(fi:Int)
     ·subst hf;by_cases hq:ql=y
      ·have qD:Hid (Qe k ps (-1)=Qe k (ps.drop (i+1)) (fi:Int)):=by
        show _=_;rw [bx.out];exact P7 (by omega)
       subst hq;clear bx bB
       go_quiet (fail)
       all_goals
        go_wp2;exact ⟨⟨i+1,fi,ag,rfl,by go_num,by first | exact dm.out | exact dm.out.more _,qD.out,by omega,by omega⟩,by simp [intOf];omega⟩
      have cY:Hid (¬PU k (nw ps)):=bB.out (by rw [bx.out];exact Pc (.inr (.inr hq)));have e1:(ql==y)=false:=by simpa using hq
      have e2:((ql:Int)==(y:Int))=false:=Mh (by omega);clear hA hN mI bH hs2;clear bx bB
      go_quiet (fail)
      all_goals
       go_wp2;go_ret;exact ⟨by first | exact dm.out | exact dm.out.more _,false,rfl,Uy (by decide) cY.out⟩
     have cY:Hid (¬PU k (nw ps)):=bB.out (by rw [bx.out];exact Pc (.inr (.inl ⟨mI,hf⟩)));have e1:(s==(fi:Int))=false:=by simpa using hf
     clear bx bB
     go_quiet (fail)
     all_goals
      go_wp2;go_ret;exact ⟨by first | exact dm.out | exact dm.out.more _,false,rfl,Uy (by decide) cY.out⟩
   rw [P7 h4] at bx;have cY:Hid (¬PU k (nw ps)):=bB.out bx.out;have e3:(q.kind==3)=false:=by simpa using h3
   have e4:(q.kind==4)=false:=by simpa using h4
   generalize q.num=m at *
   generalize q.name=qn at *
   generalize q.kids.length=ql at *
   generalize q.kind=qk at *
   clear bx bB ot h3 h4
   go_wp2_with (first | (go_at_call 63;(with_reducible refine Pe CW ?_);rintro e' w2 ⟨rfl,hb2⟩;obtain ⟨az,b0,b1,b2,b3⟩:=gX.out w2 hb2))
   go_ret;exact ⟨HB.out.trans (az.mono HB.out.size),false,rfl,Uy (by decide) cY.out⟩
 ·obtain rfl:i=ps.length:=by omega
  have bx:Hid (Qe k ps (-1)=some s):=by
   show _=_;rw [HC.out,Yb (P6 _)]
   rfl
  clear HC;by_cases eh:s<0
  ·have oq:Hid (PU k (nw ps)):=cE.out.2 ⟨s,bx.out,λh=>by omega⟩;go_wp2;go_ret;exact ⟨HB.out,true,rfl,MK rfl oq.out⟩
  obtain ⟨fi,rfl⟩:∃fi:Nat,s=(fi:Int):=⟨s.toNat,by omega⟩;have hfi:fi<fs.length:=by omega
  have pH:Hid (∀p∈ps,p.kind=4->∃e,look k p.name=some e/\p.kids.length=e.2.2/\O' k p.name=e):=λp hp h4=>by
   have hw:Pm p=false:=by unfold Pm;rw [h4];rfl
   exact Tg ((Zc k ps (-1) _ (by omega) bx.out).1 p hp hw).1 h4
  have uq:Hid (fs[fi]? =some fs[fi]):=PR hfi;have zC:Hid (PU k (nw ps)↔∀(j:Nat) (nm:Qg),fs[fi].1[j]? =some nm->∀n,n<(O' k nm).2.2->PU k (nw (S3 nm n ps))):=by
   refine ⟨λh j nm hj n hn=> ?_,λh=>cE.out.2 ⟨fi,bx.out,λ_ G hG j nm hj n hn=> ?_⟩⟩
   ·obtain ⟨s2,h1,h2⟩:=cE.out.1 h;rw [bx.out] at h1;injection h1 with h1;subst h1;exact h2 (by omega) fs[fi] uq.out j nm hj n hn
   have:G=fs[fi]:=by
    have e:fs[fi]? =some G:=hG;rw [uq.out] at e;exact (Qs e).symm
   subst this;exact h j nm hj n hn
  have dj:Hid (fs[fi].1≠[]/\fs[fi].2.length=fs[fi].1.length/\fs[fi].1.length<=24):=⟨Nd fs 0 [] k HK.out _ (Px hfi),(UC fs 0 [] k HK.out _ (Px hfi)).2,(UC fs 0 [] k HK.out _ (Px hfi)).1⟩;have rh:Hid (∀j nm,fs[fi].1[j]? =some nm->∃y,fs[fi].2[j]? =some y/\0<=y/\look k nm=some (fi,j,y.toNat)):=λj nm hj=>UE HK.out uq.out hj;obtain ⟨gf,of,gs,os,sc,gi,oi,ic,rfl,tu,lK,pU,pV,DS,vL,d0,d1,d2,d3⟩:=Jr HF.out uq.out dj.out.1 dj.out.2.1;have mE:Hid (∀W',Below w.heap.size w W'->W'.cell? ⟨gf,of+fi*2,none⟩=some (.slice (some ⟨gs,os,none⟩) fs[fi].1.length sc)/\W'.cell? ⟨gf,of+fi*2+1,none⟩=some (.slice (some ⟨gi,oi,none⟩) fs[fi].2.length ic)/\(∀j (h:j<fs[fi].1.length),W'.cell? ⟨gs,os+j,none⟩=some (.string ⟨fs[fi].1[j].toArray⟩))/\∀j (h:j<fs[fi].2.length),W'.cell? ⟨gi,oi+j,none⟩=some (.int .i64 fs[fi].2[j])):=λW' aj=>by
   have hk:=OZ.of aj HS.out;exact ⟨(hk.cell (p:=⟨gf,of+fi*2,none⟩) lK).trans d0,(hk.cell (p:=⟨gf,of+fi*2+1,none⟩) lK).trans d1,λj h=>(hk.cell (p:=⟨gs,os+j,none⟩) pU).trans (d2 j h).1,λj h=>(hk.cell (p:=⟨gi,oi+j,none⟩) pV).trans (d3 j h)⟩
  have ah5:=dj.out.2.2;have mr:=dj.out.2.1;clear d0 d1 d2 d3 cE bx lK pU pV uq dj;generalize fs[fi]=F at *
  have f1:(0:Int)<=(fi:Int):=by omega
  have f2:(fi:Int)<(fs.length:Int):=by omega
  have aV:Hid (Below w.heap.size w wr):=HB.out;clear HB bH hs2 hi;go_wp2
  go_loopw [11] (λcv gQ=>∃c:Nat,c<=F.1.length/\cv= .int .i64 c/\Hid (Below w.heap.size w gQ)/\Hid (∀(j:Nat) (nm:Qg),j<c->F.1[j]? =some nm->∀n,n<(O' k nm).2.2->PU k (nw (S3 nm n ps)))) (λcv _=>F.1.length-(intOf cv).toNat)
  case atStart=>exact ⟨0,by omega,by go_num,aV.out,λj _ hj=>absurd hj (WP _)⟩
  obtain ⟨c,hc,rfl,HB,HR⟩:=hrel;obtain ⟨c0,c1,c2,c3⟩:=mE.out _ HB.out;by_cases bg:c<F.1.length
  ·have fx:F.1[c]? =some F.1[c]:=PR bg;obtain ⟨y,hy,Ea,wA⟩:=rh.out c _ fx;obtain ⟨yn,rfl⟩:∃yn:Nat,y=(yn:Int):=⟨y.toNat,by omega⟩;have fw:(O' k F.1[c]).2.2=yn:=by unfold O';rw [wA];exact Int.toNat_natCast yn
   have Hd:yn<=8:=by have:=WU (SJ HK.out) F.1[c];omega
   have zB:F.2[c]'(by omega)=(yn:Int):=(Tt.1 hy).2;have pY:Hid (∀nm,F.1[c]? =some nm->nm=F.1[c]):=λnm h=>by rw [fx] at h;exact (Qs h).symm
   have gL:Hid (∀W',Below w.heap.size w W'->W'.cell? ⟨gf,of+fi*2,none⟩=some (.slice (some ⟨gs,os,none⟩) F.1.length sc)/\W'.cell? ⟨gf,of+fi*2+1,none⟩=some (.slice (some ⟨gi,oi,none⟩) F.2.length ic)/\W'.cell? ⟨gs,os+c,none⟩=some (.string ⟨F.1[c].toArray⟩)/\W'.cell? ⟨gi,oi+c,none⟩=some (.int .i64 (yn:Int))):=λW' aj=>by
    obtain ⟨z0,z1,z2,z3⟩:=mE.out W' aj;have Eb:=z3 c (by omega);rw [zB] at Eb;exact ⟨z0,z1,z2 c bg,Eb⟩
   have qy:(0:Int)<=(c:Int):=by omega
   have fq:(c:Int)<(F.1.length:Int):=by omega
   have tK:(c:Int)<(F.2.length:Int):=by omega
   have vI:Hid ((O' k F.1[c]).2.2=yn):=fw;have cY:Hid (∀n,n<yn->¬PU k (nw (S3 F.1[c] n ps))->¬PU k (nw ps)):=λn hn h h2=>h (zC.out.1 h2 c _ fx n (by rw [fw];exact hn));clear c2 c3 hy wA fx zB fw Ea;generalize F.1[c]=nm at *
   have dE:Hid (Below w.heap.size w wr):=HB.out;go_wp2;clear c0 c1 HB
   go_loopw [12] (λav zz=>∃a:Nat,a<=yn/\av= .int .i64 a/\Hid (Below w.heap.size w zz)/\Hid (∀n,n<a->PU k (nw (S3 nm n ps)))) (λav _=>yn-(intOf av).toNat)
   case atStart=>exact ⟨0,by omega,by go_num,dE.out,λn hn=>absurd hn (WP _)⟩
   obtain ⟨a,ha,rfl,HB3,pZ⟩:=hrel;obtain ⟨z0,z1,z2,z3⟩:=gL.out _ HB3.out;by_cases BJ:a<yn
   ·have av2:Hid (Below w.heap.size w wr):=HB3.out;go_wp2;clear z0 z1 z2 z3 HB3
    go_loopw [13,14] (λiv rv He=>∃r:Nat,r<=ps.length/\rv= .int .i64 r/\Hid (Below w.heap.size w He)/\Hid (Pi R9 50 w.heap.size S He iv (S3 nm a (ps.take r)))) (λ_ rv _=>ps.length-(intOf rv).toNat)
    case atStart=>exact ⟨0,by omega,by go_num,av2.out,Pi.nil _ _ _ _ _⟩
    obtain ⟨r,hr,rfl,cZ,HO⟩:=hrel;obtain ⟨z0,z1,z2,z3⟩:=gL.out _ cZ.out;by_cases cH:r<ps.length
    ·have hk:OZ S w wr:=OZ.of cZ.out HS.out;obtain ⟨g,o,rfl,aM,sg,a0,a1,a2,qa,qc,a3,hv⟩:=(HP.out.on hk).at cH;have r1:(0:Int)<=(r:Int):=by omega
     have r2:(r:Int)<(ps.length:Int):=by omega
     have bu:Hid _:=vj1 (nm:=nm) (n:=a) cH;have eu:Hid (ps[r].kind=4->ps[r].name=nm->ps[r].kids.length=yn):=λh4 hn=>by
      obtain ⟨e,h1,h2,h3⟩:=pH.out _ (Px cH) h4;have:=vI.out;rw [<-hn,h3] at this;rw [h2,this]
     have mA:Hid ((S3 nm a (ps.take r)).length<=200):=PZ LJ (by rw [RW];omega);obtain ⟨ka,kc,qR,_,_,ir⟩:=hv;obtain ⟨rfl,rfl⟩:qa=ka/\qc=kc:=by simpa using qR
     clear qR hk sg;generalize ps[r]=q at *
     by_cases h4:q.kind=4
     ·cases hn:(q.name==nm) with
      | true=>
       have zD:a<q.kids.length:=by rw [eu.out h4 (Us hn)];exact BJ
       obtain ⟨g',o',rfl,gA,_,k0,k1,k2,ua,uc,k3,hu⟩:=ir.at zD;obtain ⟨Ed,Ee,zE,kS,zF,fE⟩:=hu;obtain ⟨rfl,rfl⟩:ua=Ed/\uc=Ee:=by simpa using zE
       have bQ:Hid (S3 nm a (ps.take (r+1))=S3 nm a (ps.take r)++[q.kids[a]]):=by
        have:=bu.out;rw [Pc (by rw [h4,hn];rfl),PR zD] at this;exact this
       have ld:Hid (q.kids[a].name.length<140737488355328/\q.kids[a].kids.length<140737488355328/\Pl wr S (.slice ua q.kids[a].kids.length uc) q.kids[a].kids):=⟨kS,zF,fE⟩;have an6:(0:Int)<=(a:Int):=by omega
       have an5:(a:Int)<(q.kids.length:Int):=by omega
       clear kS zF fE zE bu eu ir;rw [h4] at a0
       go_upto_region 30 with fail
       go_quiet (fail)
       obtain ⟨wd,dR⟩:∃wd,wd=wr.drewN nq:=⟨_,rfl⟩;rw [<-dR];have kf:Below wr.heap.size wr wd:=by rw [dR];exact (Pb _ _).more _
       have ad4:wd.cell? ⟨g,o+r*4+3,none⟩=some (.slice (some ⟨g',o',none⟩) q.kids.length qc):=by rw [dR];exact a3
       have ae4:wd.cell? ⟨g',o'+a*4,none⟩=some (.int .i64 q.kids[a].kind):=by rw [dR];exact k0
       have x9:wd.cell? ⟨g',o'+a*4+1,none⟩=some (.string ⟨q.kids[a].name.toArray⟩):=by rw [dR];exact k1
       have at3:wd.cell? ⟨g',o'+a*4+2,none⟩=some (.int .i64 q.kids[a].num):=by rw [dR];exact k2
       have au6:wd.cell? ⟨g',o'+a*4+3,none⟩=some (.slice ua q.kids[a].kids.length uc):=by rw [dR];exact k3
       have sW:Hid (R9.C wd (RL S w.heap.size wd u13) (Ru q.kids[a] ua uc) q.kids[a]):=⟨ua,uc,rfl,ld.out.1,ld.out.2.1,(ld.out.2.2.on (OZ.of kf λb hb=>PQ (HS.out b hb) cZ.out.size)).up λ_ h=> .inl h⟩;have ik:Hid (Below wr.heap.size wr wd):=kf;clear a0 a1 a2 a3 k0 k1 k2 k3 kf dR z0 z1 z2 z3 ld hn
       go_wp2_with (at_builtin;refine Ue (E:=R9) (v:=u13) (cs:=Ru q.kids[a] ua uc) (p:=q.kids[a]) Tryz.ty31 rfl _ _ rfl rfl HO.out HS.out cZ.out.size ik.out rfl sW.out (P6 _) (by have:=mA.out;omega) ?_;intro v5 w5 O5 B5 _)
       exact ⟨⟨r+1,cH,by go_num,cZ.out.trans B5,by show Pi _ _ _ _ _ _ _;rw [bQ.out];exact O5⟩,by simp [intOf];omega⟩
      | false=>
       have bQ:Hid (S3 nm a (ps.take (r+1))=S3 nm a (ps.take r)):=by
        have:=bu.out;rw [P7 (by rw [h4,hn];decide),SH] at this;exact this
       rw [h4] at a0;clear bu eu ir
       go_upto_region 30 with fail
       go_quiet (fail)
       go_wp2;exact ⟨⟨r+1,cH,by go_num,cZ.out.more _,by show Pi _ _ _ _ _ _ _;rw [bQ.out];exact HO.out.on HS.out cZ.out.size ((Pb _ _).more _)⟩,by simp [intOf];omega⟩
     have bQ:Hid (S3 nm a (ps.take (r+1))=S3 nm a (ps.take r)):=by
      have:=bu.out;rw [P7 (by rw [Mh h4];exact Bool.false_ne_true),SH] at this;exact this
     have e4:(q.kind==4)=false:=Mh h4;clear bu eu ir;generalize q.kind=qk at *
     go_upto_region 30 with fail
     go_quiet (fail)
     go_wp2;exact ⟨⟨r+1,cH,by go_num,cZ.out.more _,by show Pi _ _ _ _ _ _ _;rw [bQ.out];exact HO.out.on HS.out cZ.out.size ((Pb _ _).more _)⟩,by simp [intOf];omega⟩
    obtain rfl:r=ps.length:=by omega
    rw [QM] at HO;obtain ⟨ia,ce4,jH⟩:=Own.len HO.out;have mA:Hid ((S3 nm a ps).length<=200):=PZ LJ bo;by_cases h0:S3 nm a ps=[]
    ·rw [h0] at jH;have em:Hid (∀n,n<a+1->PU k (nw (S3 nm n ps))):=λn hn=>by
      by_cases e:n=a
      ·rw [e,h0];exact NG k
      exact pZ.out n (by omega)
     subst jH;clear cY;go_wp2;exact ⟨⟨a+1,BJ,by go_num,cZ.out,em.out⟩,by simp [intOf];omega⟩
    have cT:0<(S3 nm a ps).length:=Tk.2 h0;subst jH;have CC:=ca5.out wr (λy=>S y\/(w.heap.size<=y/\y<wr.heap.size)) (some ⟨gf,of,none⟩) fc _ (S3 nm a ps) (λb hb=>hb.elim (λh=>PQ (HS.out b h) cZ.out.size) λh=>h.2) ((HF.out.on (OZ.of cZ.out HS.out)).up λ_ h=> .inl h) ((Pi.rowE HO.out).toPats.up λy hy=>hy.elim .inr id) mA.out (VK HD.out) h0;have zG:Hid (Below w.heap.size w wr):=cZ.out;have HR4:Hid (PU k (nw (S3 nm a ps))->∀n,n<a+1->PU k (nw (S3 nm n ps))):=λh n hn=>by
     by_cases e:n=a
     ·rw [e];exact h
     exact pZ.out n (by omega)
    have hp1:(0:Int)<((S3 nm a ps).length:Int):=by omega
    clear h0 mA cZ HO pZ
    go_upto_region 34 with (first | (go_at_call 37;(with_reducible refine Pe CC ?_);rintro e' w5 ⟨hb5,b,rfl,hbi⟩))
    have ur:Hid (Below w.heap.size w w5):=zG.out.trans (hb5.mono zG.out.size);cases b with
    | true=>
     have yY:Hid _:=HR4.out (hbi.1 rfl);clear hbi hb5 CC;go_wp2;exact ⟨⟨a+1,BJ,by go_num,ur.out,yY.out⟩,by simp [intOf];omega⟩
    | false=>
     have zH:Hid (¬PU k (nw ps)):=cY.out a BJ λh=>by have:=hbi.2 h;cases this
     clear hbi hb5 CC;go_wp2;go_ret;exact ⟨ur.out,false,rfl,Uy (by decide) zH.out⟩
   obtain rfl:a=yn:=by omega
   have cm5:Hid (∀(j:Nat) (m:Qg),j<c+1->F.1[j]? =some m->∀n,n<(O' k m).2.2->PU k (nw (S3 m n ps))):=λj m hj hm n hn=>by
    by_cases e:j=c
    ·subst e;rw [pY.out m hm] at hn⊢;exact pZ.out n (by rw [vI.out] at hn;exact hn)
    exact HR.out j m (by omega) hm n hn
   go_wp2;exact ⟨⟨c+1,bg,by go_num,HB3.out,cm5.out⟩,by simp [intOf];omega⟩
  obtain rfl:c=F.1.length:=by omega
  have oq:Hid (PU k (nw ps)):=zC.out.2 λj nm hj n hn=>HR.out j nm (Tt.1 hj).1 hj n hn;go_wp2;go_ret;exact ⟨HB.out,true,rfl,MK rfl oq.out⟩
theorem N3 {k:Kn}{fs:List Pu}(aF:Po 0 [] fs=some k)(aY:fs.length<=10000):∀D,ZX k fs (D+1)
 | 0=>qr0 aF aY 0 λw S fa fc pv ps _ _ _ _ hD am=>by
  cases ps with
  | nil=>exact absurd rfl am
  | cons p r=>exact absurd (hD p (by simp)) (WP _)
 | D+1=>qr0 aF aY (D+1) λw S fa fc pv ps h1 h2 h3 h4 h5 _=>N3 aF aY D w S fa fc pv ps h1 h2 h3 h4 h5
end
section
variable {k:Kn}{fs:List Pu}
def QQ (c:Nat)(rows:List (List Pt)):List Pt:=rows.filterMap λr=>r[c]?
theorem bh1 {c:Nat}{rows:List (List Pt)}{i:Nat}(hi:i<rows.length)(hc:c<rows[i].length):QQ c (rows.take (i+1))=QQ c (rows.take i)++[rows[i][c]]:=by
 unfold QQ;rw [S1,PR hi,WL];simp [PR hc]
theorem ES (c:Nat)(rows:List (List Pt)):(QQ c rows).length<=rows.length:=XH _ _
theorem E9 (n:Nat):∀lines:List (Nat×List Pt),(Pq n lines).map (·.2)=(QQ n (lines.map (·.2))).filter λp=> !Pm p
 | []=>rfl
 | l::r=>by
  have ih:=E9 n r;unfold Pq QQ at *
  rw [Re,Ui,Ui];cases h:l.2[n]? with
  | none=>exact ih
  | some p=>
   cases hw:Pm p with
   | true=>
    simp only [hw,if_true];rw [X1 (by simp [hw])];exact ih
   | false=>
    simp only [hw,Bool.false_eq_true,if_false];rw [X0 (by simp [hw]),Re,ih]
theorem bj1 (hk:KnOk k fs)(rows:List (List Pt)):((∀x∈rows,x.length=(rows.headD []).length)/\∀c∈QA [] (rows.headD []).length (Qy rows),PU k c.2.2)↔(∀x∈rows,x.length=(rows.headD []).length)/\∀c,c<(rows.headD []).length->PU k (nw (QQ c rows)):=by
 have hs:∀c,PU k (Pq c (Qy rows))↔PU k (nw (QQ c rows)):=λc=>MB hk (by rw [E9,JF,Lx]);refine and_congr_right λ_=>⟨λh c hc=>(hs c).1 ?_,λh col bA=> ?_⟩
 ·by_cases he:(Pq c (Qy rows)).isEmpty=true
  ·rw [ZB.1 he];exact NG k
  exact h ([],c,Pq c (Qy rows)) (SE.2 ⟨c,T2.2 hc,by rw [P7 he]⟩)
 obtain ⟨c,hc,e⟩:=SE.1 bA;by_cases he:(Pq c (Qy rows)).isEmpty=true
 ·rw [Pc he] at e;cases e
 rw [P7 he] at e;rw [<-Qs e];exact (hs c).2 (h c (T2.1 hc))
def Wx (k:Kn)(rows:List (List Pt))(w:World)(r:Ending)(w':World):Prop:=Below w.heap.size w w'/\∃b:Bool,r= .returned (.bool b)/\(b=true↔(∀x∈rows,x.length=(rows.headD []).length)/\∀c∈QA [] (rows.headD []).length (Qy rows),PU k c.2.2)
def RrQ (k:Kn)(rows:List (List Pt))(wd:Nat)(w:World)(r:Ending)(w':World):Prop:=Below w.heap.size w w'/\∃b:Bool,r= .returned (.bool b)/\(b=true↔(∀x∈rows,x.length=wd)/\∀c,c<wd->PU k (nw (QQ c rows)))
theorem bk1 (aF:Po 0 [] fs=some k)(aY:fs.length<=10000){w:World}{S:Nat->Prop}(rows:List (List Pt))(fa fP:Option Addr)(fc ci:Nat)(hS:∀y,S y->y<w.heap.size)(hF:PH w S (.slice fa fs.length fc) fs)(hR:RH w S (.slice fP rows.length ci) rows)(hl:rows.length<=200)(cj:∀r∈rows,r.length<=16):
  Calls Tryz.prog 21 #[.slice fa fs.length fc,.slice fP rows.length ci] w (Wx k rows w):=by
 obtain ⟨_,_,ce,aK⟩:=Pd.open hR;injection ce with ce ko ch;subst ce ch;clear ko hR;have HR:=P4 aK;have HS:=P4 hS;have HF:=P4 hF;have HI:Hid _:=bj1 (SJ aF) rows;have kA:=P4 cj;have HC:=P4 (N3 aF aY);clear aK hS hF cj aF aY;have HD:Hid (∀c,∀p∈QQ c rows,p.1<(rows.map λr=>(r.map (·.1)).sum).sum+1):=λc p hp=>by
  obtain ⟨r,hr,he⟩:=SE.1 hp;have h1:=YZ _ _ (PI.2 ⟨p,Tf he,rfl⟩:p.1∈r.map (·.1));have h2:=YZ _ _ (PI.2 ⟨r,hr,rfl⟩:(r.map (·.1)).sum∈rows.map λr=>(r.map (·.1)).sum);omega
 obtain ⟨wd,dR⟩:∃wd,wd=(rows.headD []).length:=⟨_,rfl⟩;have pB:Hid (∀h:0<rows.length,rows[0].length=wd):=λh=>by
  rw [dR];cases rows with
  | nil=>simp at h
  | cons a r=>rfl
 have bk7:wd<=16:=by
  rw [dR];cases hr:rows with
  | nil=>simp
  | cons a r=>exact kA.out a (by rw [hr];simp)
 suffices H:Calls Tryz.prog 21 #[.slice fa fs.length fc,.slice fP rows.length ci] w (RrQ k rows wd w) from H.mono λr w' h=>by
  unfold Wx;rw [propext HI.out,<-dR];exact h
 clear HI dR;go_enter Tryz.func21,Tryz.ntmps21;go_wp2
 go_loopw [5] (λiv wr=>∃i:Nat,i<=rows.length/\iv= .int .i64 i/\Hid (Below w.heap.size w wr)/\Hid (∀x∈rows.take i,x.length=wd)) (λiv _=>rows.length-(intOf iv).toNat)
 case atStart=>exact ⟨0,by omega,by go_num,Pb _ _,λx hx=>by simp at hx⟩
 obtain ⟨i,hi,rfl,HB,HM⟩:=hrel;by_cases ag:i<rows.length
 ·have dP:0<rows.length:=by omega
  obtain ⟨g,o,rfl,aM,hr⟩:=HR.out (λe=>by rw [e] at ag;simp at ag);have hk:OZ S w wr:=OZ.of HB.out HS.out;obtain ⟨s0,a0,c0,q0,_⟩:=hr 0 dP;obtain ⟨_,a1,c1,q1,_⟩:=hr i ag;have q0:=(hk.cell (p:=⟨g,o+0*1,none⟩) s0).trans q0;have q1:=(hk.cell (p:=⟨g,o+i*1,none⟩) s0).trans q1;rw [pB.out dP] at q0;rw [Uk,TO] at q0;rw [R4] at q1;have i1:(0:Int)<=(i:Int):=by omega
  have i2:(i:Int)<(rows.length:Int):=by omega
  have i3:(0:Int)<(rows.length:Int):=by omega
  have em:Hid (rows[i].length=wd->∀x∈rows.take (i+1),x.length=wd):=λe x hx=>by
   rw [S1,PR ag] at hx;rcases PE.1 hx with hx | hx
   ·exact HM.out x hx
   rw [show x=rows[i] by simpa using hx];exact e
  have cY:Hid (¬rows[i].length=wd->¬∀x∈rows,x.length=wd):=λh h2=>h (h2 _ (Px ag));clear hr hk s0 HM;generalize rows[i].length=rl at *
  by_cases he:rl=wd
  ·subst he;have mN:Hid _:=em.out rfl;clear em cY
   go_upto_region 4 with fail
   go_quiet (fail)
   go_wp2;exact ⟨⟨i+1,ag,by go_num,HB.more _,mN.out⟩,by simp [intOf];omega⟩
  have mN:Hid _:=cY.out he;have e1:((rl:Int)==(wd:Int))=false:=by simpa using (by omega:¬(rl:Int)=(wd:Int))
  clear em cY
  go_upto_region 4 with fail
  go_quiet (fail)
  go_wp2;go_ret;exact ⟨HB.more _,false,rfl,Uy (by decide) λh=>mN.out h.1⟩
 obtain rfl:i=rows.length:=by omega
 have vg:Hid (∀x∈rows,x.length=wd):=by
  have:=HM.out
  rwa [QM] at this
 have dE:=P4 HB.out;clear HM HB;go_wp2
 go_loopw [6] (λcv wr=>∃c:Nat,c<=wd/\cv= .int .i64 c/\Hid (Below w.heap.size w wr)/\Hid (∀c',c'<c->PU k (nw (QQ c' rows)))) (λcv _=>wd-(intOf cv).toNat)
 case atStart=>exact ⟨0,by omega,by go_num,dE.out,λc hc=>absurd hc (WP _)⟩
 obtain ⟨c,hc,rfl,HB,HM⟩:=hrel;by_cases dP:0<rows.length
 ·obtain ⟨g,o,rfl,aM,hr⟩:=HR.out (λe=>by rw [e] at dP;simp at dP);have hk:OZ S w wr:=OZ.of HB.out HS.out;obtain ⟨s0,a0,c0,q0,_⟩:=hr 0 dP;have q0:=(hk.cell (p:=⟨g,o+0*1,none⟩) s0).trans q0;rw [pB.out dP] at q0;rw [Uk,TO] at q0;have i3:(0:Int)<(rows.length:Int):=by omega
  have d3:decide ((0:Int)<(rows.length:Int))=true:=T7 i3;by_cases wJ:c<wd
  ·have c1:(c:Int)<(wd:Int):=by omega
   have d1:decide ((c:Int)<(wd:Int))=true:=T7 c1;have bI:=P4 HB.out;have fD:Hid (∀W',Below w.heap.size w W'->∀i (h:i<rows.length),∃ad cap,W'.cell? ⟨g,o+i,none⟩=some (.slice ad rows[i].length cap)/\Pl W' S (.slice ad rows[i].length cap) rows[i]):=λW' hb i h=>by
    obtain ⟨_,ad,cap,q,hp⟩:=hr i h;have bU:=OZ.of hb HS.out;have q:=(bU.cell (p:=⟨g,o+i*1,none⟩) s0).trans q;rw [R4] at q;exact ⟨ad,cap,q,hp.on bU⟩
   have iw:Hid (∀i (h:i<rows.length),rows[i].length=wd):=λi h=>vg.out _ (Px h);clear hr hk HB;go_wp2;clear q0
   go_loopw [7,8] (λpv iv wr=>∃i:Nat,i<=rows.length/\iv= .int .i64 i/\Hid (Below w.heap.size w wr)/\Hid (Pi R9 50 w.heap.size S wr pv (QQ c (rows.take i)))) (λ_ iv _=>rows.length-(intOf iv).toNat)
   case atStart=>exact ⟨0,by omega,by go_num,bI.out,Pi.nil _ _ _ _ _⟩
   obtain ⟨i,hi,rfl,HB,HO⟩:=hrel;by_cases ag:i<rows.length
   ·obtain ⟨ad,cap,q,hp⟩:=fD.out wr HB.out i ag;have hci:c<rows[i].length:=by rw [iw.out i ag];exact wJ
    obtain ⟨g',o',rfl,gA,_,k0,k1,k2,ua,uc,k3,hu⟩:=hp.at hci;obtain ⟨Ed,Ee,zE,kS,zF,fE⟩:=hu;obtain ⟨rfl,rfl⟩:ua=Ed/\uc=Ee:=by simpa using zE
    have bu:=P4 (bh1 ag hci);have sW:Hid (R9.C wr (RL S w.heap.size wr u7) (Ru rows[i][c] ua uc) rows[i][c]):=⟨ua,uc,rfl,kS,zF,fE.up λ_ h=> .inl h⟩;have mA:Hid ((QQ c (rows.take i)).length<=200):=PZ (ES _ _) (by rw [RW];omega);have i1:(0:Int)<=(i:Int):=by omega
    have i2:(i:Int)<(rows.length:Int):=by omega
    have c2:(0:Int)<=(c:Int):=by omega
    rw [iw.out i ag] at q;clear zE kS zF fE hp;generalize rows[i][c]=u at *
    clear hci
    go_wp2_with (at_builtin;refine Ue (E:=R9) (v:=u7) (cs:=Ru u ua uc) (p:=u) Tryz.ty31 rfl _ _ rfl rfl HO.out HS.out HB.size (Pb _ _) rfl sW.out (P6 _) (by have:=mA.out;omega) ?_;intro v5 w5 O5 B5 _)
    exact ⟨⟨i+1,ag,by go_num,HB.out.trans B5,by show Pi _ _ _ _ _ _ _;rw [bu.out];exact O5⟩,by simp [intOf];omega⟩
   obtain rfl:i=rows.length:=by omega
   rw [QM] at HO;obtain ⟨ia,ce4,jH⟩:=Own.len HO.out;subst jH;have CC:=HC.out _ wr (λy=>S y\/(w.heap.size<=y/\y<wr.heap.size)) fa fc _ (QQ c rows) (λb hb=>hb.elim (λh=>PQ (HS.out b h) HB.size) λh=>h.2) ((HF.on (OZ.of HB.out HS.out)).up λ_ h=> .inl h) ((Pi.rowE HO.out).toPats.up λy hy=>hy.elim .inr id) (PZ (ES _ _) hl) (HD.out c);have zG:=P4 HB.out;clear HO HB
   go_upto_region 15 with (first | (go_at_call 37;(with_reducible refine Pe CC ?_);rintro e' w5 ⟨hb5,b,rfl,hbi⟩))
   have ur:=P4 (zG.trans (hb5.mono zG.size));cases b with
   | true=>
    have zH:Hid (∀c',c'<c+1->PU k (nw (QQ c' rows))):=λc' h=>by
     by_cases e:c'=c
     ·rw [e];exact hbi.1 rfl
     exact HM.out c' (by omega)
    clear hbi hb5 CC;go_wp2;exact ⟨⟨c+1,wJ,by go_num,ur.out,zH.out⟩,by simp [intOf];omega⟩
   | false=>
    have zH:Hid (¬PU k (nw (QQ c rows))):=λh=>by have:=hbi.2 h;cases this
    have DV:=P4 wJ;clear hbi hb5 CC;go_wp2;go_ret;exact ⟨ur.out,false,rfl,Uy (by decide) λh=>zH.out (h.2 c DV.out)⟩
  obtain rfl:c=wd:=by omega
  have c1:¬(c:Int)<(c:Int):=by omega
  have HN:=P4 HM.out;clear hr hk;go_wp2;go_ret;exact ⟨HB.out,true,rfl,MK rfl ⟨vg.out,HN.out⟩⟩
 have i3:¬(0:Int)<(rows.length:Int):=by omega
 have HN:Hid (∀c',c'<wd->PU k (nw (QQ c' rows))):=λc' _=>by
  have:rows=[]:=Up.1 (by omega);rw [this];exact NG k
 go_wp2;go_ret;exact ⟨HB.out,true,rfl,MK rfl ⟨vg.out,HN.out⟩⟩
end
