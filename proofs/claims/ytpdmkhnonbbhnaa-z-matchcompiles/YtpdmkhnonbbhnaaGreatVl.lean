import Derived.Test.YtpdmkhnonbbhnaaGreatMqx
import Derived.Test.YtpdmkhnonbbhnaaGreatMpx
import Derived.Test.YtpdmkhnonbbhnaaGreatMrx
import Derived.Test.YtpdmkhnonbbhnaaGreatMix
namespace Go.Proofs.YtpdmkhnonbbhnaaGreat
variable {fs:List Pu}{k:Kn}{N ax:Nat}{r:List Qj}{c:PM}{af:List Sp}{cols:List PM}
theorem Zt {α β:Type}{step:α->Nat->β×Nat}:∀(l:List α) (n:Nat) (c:α) (t:β),(c,t)∈l.zip (P9 step l n).1->c∈l/\∃m,t=(step c m).1
 | [],_,_,_,h=>by simp at h
 | a::r,n,c,t,h=>by
  unfold P9 at h;rw [ZG] at h;rcases Qa.1 h with h | h
  ·injection h with h1 h2;subst h1;exact ⟨by simp,n,h2⟩
  obtain ⟨h1,h2⟩:=Zt r _ c t h;exact ⟨RI _ h1,h2⟩
theorem sj0 {α β:Type}{step:α->Nat->β×Nat}(l:List α)(n:Nat):(l.zip (P9 step l n).1).map (·.1)=l:=by
 rw [D2];rw [Y7];exact P6 _
def VY (k:Kn)(fs:List Pu):Prop:=∀e∈k,∃f,fs[e.2.1]? =some f/\e.2.2.1<f.1.length
theorem Ka {i:Nat}{P:Qg×Nat×Nat×Nat->Prop}:∀(ns:List Qg) (xs:List Int) (p:Nat) (k k':Kn),(∀e∈k,P e)->(∀n x j,j<ns.length->P (n,i,p+j,x))->Qt i k p ns xs=some k'->∀e∈k',P e
 | [],_,p,k,k',h,_,e=>by
  unfold Qt at e;obtain rfl:=Qs e;exact h
 | n::ns,[],p,k,k',h,_,e=>by
  unfold Qt at e;cases e
 | n::ns,x::xs,p,k,k',h,hp,e=>by
  unfold Qt at e;split at e
  ·cases e
  refine Ka ns xs (p+1) _ k' (λa ha=> ?_) (λm y j hj=> ?_) e
  ·rcases PE.1 ha with ha | ha
   ·exact h a ha
   obtain rfl:=Ra.1 ha;exact hp n x.toNat 0 (by simp)
  have:=hp m y (j+1) (by simp;omega)
  rwa [show p+(j+1)=p+1+j by omega] at this
theorem sm0 {Aq:List Pu}:∀(fs:List Pu) (i:Nat) (k k':Kn),Aq.drop i=fs->VY k Aq->Po i k fs=some k'->VY k' Aq
 | [],i,k,k',_,h,e=>by
  unfold Po at e;obtain rfl:=Qs e;exact h
 | f::fs,i,k,k',hd,h,e=>by
  unfold Po at e;split at e
  ·cases e
  cases hc:Qt i k 0 f.1 f.2 with
  | none=>rw [hc] at e;cases e
  | some k1=>
   rw [hc] at e;have hf:Aq[i]? =some f:=by
    have:=congrArg (λl:List Pu=>l[0]?) hd;simpa using this
   refine sm0 fs (i+1) k1 k' ?_ ?_ e
   ·have:=congrArg List.tail hd;rw [List.tail_drop] at this;simpa using this
   refine Ka (P:=λe=>∃f,Aq[e.2.1]? =some f/\e.2.2.1<f.1.length) f.1 f.2 0 k k1 h (λn x j hj=>⟨f,hf,?_⟩) hc;show 0+j<_;omega
theorem MU (h:Po 0 [] fs=some k):VY k fs:=sm0 fs 0 [] k rfl (λe he=>by simp at he) h
theorem us (hk:KnOk k fs)(h:together k af=true){c:Cs}(hc:c∈Pg k af):(c.1≠[]->c.2=0)/\(c.1≠[]->∃e,look k c.1=some e/\(c.1,e)∈k/\O' k c.1=e):=by
 obtain ⟨s,hs,rfl,_⟩:=U' hk h hc;obtain ⟨_,hm,_⟩:=SF h s hs s hs;rcases P' hm with h3 | h4
 ·have e:PA s.2=([],s.2.num):=by unfold PA;rw [P7 (by omega)]
  rw [e];exact ⟨λq=>absurd rfl q,λq=>absurd rfl q⟩
 have e:PA s.2=(s.2.name,0):=by unfold PA;rw [Pc h4]
 rw [e];obtain ⟨c,h1,_,h3⟩:=Tg hm h4;exact ⟨λ_=>rfl,λ_=>⟨c,h1,Su h1,h3⟩⟩
theorem Vu (hk:KnOk k fs)(hp:VY k fs)(h:together k af=true)(h0:0<(Pg k af).length)(hc:(Pg k af)[0].1≠[])(hf:Ss k fs (Pg k af)=false):
  ∃bh:(O' k (Pg k af)[0].1).1<fs.length,PJ k (Pg k af)[0].1 (Pg k af) 0<fs[(O' k (Pg k af)[0].1).1].1.length:=by
 obtain ⟨_,h2⟩:=us hk h (Px h0);obtain ⟨e,h3,h4,h5⟩:=h2 hc;have bh:(O' k (Pg k af)[0].1).1<fs.length:=by rw [h5];exact hk.family _ h4
 refine ⟨bh,?_⟩;have hA:=Uf hk h;obtain ⟨hr,gU⟩:=TS k af hA;have aQ:∀c∈Pg k af,c.1≠[]/\c.2=0/\(O' k c.1).2.1<fs[(O' k (Pg k af)[0].1).1].1.length:=by
  intro c aX;obtain ⟨s,hs,aT,_⟩:=U' hk h aX;obtain ⟨s0,eh,As,_⟩:=U' hk h (Px h0);obtain ⟨q1,q2,q3⟩:=SF h s hs s0 eh;obtain ⟨_,q4,_⟩:=SF h s0 eh s0 eh;have k0:s0.2.kind=4:=by
   rcases P' q4 with e | e
   ·exact absurd (by rw [As];unfold PA;rw [P7 (by omega)]) hc
   exact e
  have e1:c=(s.2.name,0):=by rw [aT];unfold PA;rw [Pc (by omega)]
  have e0:(Pg k af)[0]=(s0.2.name,0):=by rw [As];unfold PA;rw [Pc k0]
  obtain ⟨d,d1,_,d3⟩:=Tg q2 (by omega);have hd:=Su d1;rw [e1];refine ⟨hk.name _ hd,rfl,?_⟩;obtain ⟨f,f1,f2⟩:=hp _ hd;have tU:(O' k (Pg k af)[0].1).1=d.1:=by rw [e0,<-q3 k0,d3]
  have:fs[(O' k (Pg k af)[0].1).1]=f:=by
   have h7:fs[d.1]? =some f:=f1;rw [<-tU,PR bh] at h7;exact Qs h7
  rw [this];show (O' k s.2.name).2.1<_;rw [d3];exact f2
 have aA:(Pg k af).length<=fs[(O' k (Pg k af)[0].1).1].1.length:=by
  have uN:((Pg k af).map λc=>(O' k c.1).2.1).Pairwise (· < ·):=by
   rw [Yu];refine hr.imp_of_mem λ{a b} ha hb dQ=> ?_;rw [UD] at dQ;rcases dQ with e | ⟨_,e⟩
   ·exact e
   rw [(aQ a ha).2.1,(aQ b hb).2.1] at e;omega
  have:=Zz uN fs[(O' k (Pg k af)[0].1).1].1.length (λx hx=>by
   obtain ⟨c,hc,rfl⟩:=PI.1 hx;exact (aQ c hc).2.2)
  simpa using this
 have am:(Pg k af).length≠fs[(O' k (Pg k af)[0].1).1].1.length:=λe=>by
  have:Ss k fs (Pg k af)=true:=by
   cases aT:Pg k af with
   | nil=>rw [aT] at h0;simp at h0
   | cons a r=>
    have ea:(Pg k af)[0]=a:=by simp [aT]
    have e9:fs[(O' k a.1).1]? =some fs[(O' k (Pg k af)[0].1).1]:=by
     rw [<-ea];exact PR bh
    unfold Ss;simp only;rw [ea] at hc;rw [e9];simp only [Tj,bne_iff_ne,ne_eq,WY];refine ⟨hc,?_⟩;rw [<-aT];exact e
  rw [this] at hf;cases hf
 have hg:=OX k (Pg k af)[0].1 (Pg k af) 0;omega
theorem MQ {r:Nat}{rows:List Nat}(ha:ax<cols.length)(hi:cols.findIdx? (Rx r)=some ax):PK cols[ax].2.2 (r::rows)≠[]:=by
 have h1:=(SP.1 hi).2.1;unfold Rx at h1;obtain ⟨s,hs,he⟩:=UG.1 h1;have:s∈PK cols[ax].2.2 (r::rows):=Sq.2 ⟨hs,by
  rw [Us he];simp⟩
 exact Lv this
theorem FG {k:Kn}{fs:List Pu}(hk:KnOk k fs)(hp:VY k fs):∀(f n:Nat) (cols:List PM) (rows:List Nat) (m:Nat),(∀c∈cols,Good k m c)->U9 k fs f (Ps k fs f n cols rows).1
 | 0,_,_,_,_,_=>trivial
 | f+1,n,cols,rows,m,hg=>by
  by_cases hn:5000<=n
  ·rw [Vq _ _ _ _ _ _ hn];exact U9.zero _ _ _
  cases rows with
  | nil=>rw [VW _ _ _ _ _ (by omega)];exact ⟨λc h=>by simp at h,λh=>by simp at h,λc h=>by simp at h,λc h=>by simp at h⟩
  | cons r rows=>
   cases hi:cols.findIdx? (Rx r) with
   | none=>rw [V9 _ _ _ _ _ _ _ (by omega) hi];exact ⟨λc h=>by simp at h,λh=>by simp at h,λc h=>by simp at h,λc h=>by simp at h⟩
   | some ax=>
    have ha:ax<cols.length:=(SP.1 hi).1;rw [Vz _ _ _ _ _ _ _ _ ha (by omega) hi];have ms:=hg _ (Px ha);have am:=MQ (rows:=rows) ha hi;have jo:together k (PK cols[ax].2.2 (r::rows))=true:=(ms.right.sub hk TW).together;have jb:∀x∈Pg k (PK cols[ax].2.2 (r::rows)),∀q,U9 k fs f (PG k fs f cols (r::rows) ax (PK cols[ax].2.2 (r::rows)) (cols[ax].1++[cols[ax].2.1]) x q).1:=λx hx q=>by
     refine FG hk hp f q _ _ (m+1) λc hc=> ?_;rcases PE.1 hc with hc | hc
     ·rcases PE.1 hc with hc | hc
      ·exact (hg c (Sa hc)).up (by omega)
      exact ms.within hk (r::rows) hx hc
     exact (hg c (Sn hc)).up (by omega)
    have mW:∀q,U9 k fs f (Ps k fs f q (cols.take ax++cols.drop (ax+1)) (QE (r::rows) (PK cols[ax].2.2 (r::rows)))).1:=λq=>by
     refine FG hk hp f q _ _ m λc hc=> ?_;rcases PE.1 hc with hc | hc
     ·exact hg c (Sa hc)
     exact hg c (Sn hc)
    unfold T9;simp only;generalize PK cols[ax].2.2 (r::rows)=af at *
    generalize PG k fs f cols (r::rows) ax af (cols[ax].1++[cols[ax].2.1])=step at *
    have h1:∀c∈(Pg k af).zip (P9 step (Pg k af) (n+1)).1,(c.1.1≠[]->c.1.2=0)/\U9 k fs f c.2:=λc hc=>by
     obtain ⟨q1,q,q2⟩:=Zt _ _ c.1 c.2 hc;exact ⟨(us hk jo q1).1,by rw [q2];exact jb _ q1 q⟩
    split
    ·exact ⟨λc hc=>(h1 c hc).1,λh=>by simp at h,λc hc=>(h1 c hc).2,λe he=>by simp at he⟩
    rename_i hf;refine ⟨λc hc=>(h1 c hc).1,λ_=> ?_,λc hc=>(h1 c hc).2,λe he=>by rw [Ra.1 he];exact mW _⟩;have hl:((Pg k af).zip (P9 step (Pg k af) (n+1)).1).length=(Pg k af).length:=by rw [Yi,Y7,Nat.min_self]
    have h0:=Nm (fs:=fs) hk jo am;have e0:∀h,((Pg k af).zip (P9 step (Pg k af) (n+1)).1)[0]'h=((Pg k af)[0],(P9 step (Pg k af) (n+1)).1[0]'(by rw [Y7];exact h0)):=λh=>List.getElem_zip;refine ⟨by show 0<((Pg k af).zip (P9 step (Pg k af) (n+1)).1).length;omega,?_⟩;show (((Pg k af).zip (P9 step (Pg k af) (n+1)).1)[0]'(by omega)).1.1≠[]->_;have uO:=sj0 (step:=step) (Pg k af) (n+1);simp only [e0,uO];intro hc;exact Vu hk hp jo h0 hc (by simpa using hf)
def PO (c:PM):List Nat:=c.1++[c.2.1]
structure Pok (N:Nat)(r:List Qj)(c:PM):Prop where
 reach:RJ N r (PO c)
 new:∀y∈r,y.1≠PO c
 len:(PO c).length<=r.length+1
theorem Pok.on (h:Pok N r c){s:Qj}(hs:s.1≠PO c):Pok N (s::r) c:=⟨h.reach.more λy hy=>RI _ hy,λy hy=>by
  rcases Qa.1 hy with rfl | hy
  ·exact hs
  exact h.new y hy,by have:=h.len;simp;omega⟩
theorem Pok.ok (h:Pok N r c)(hr:PD N r){s:Qj}(hs:s.1=PO c):PD N (s::r):=by
 refine ⟨hr,?_,?_,?_,?_⟩
 ·rw [hs];unfold PO;simp
 ·rw [hs];exact h.len
 ·rw [hs];exact h.reach
 rw [hs];exact h.new
theorem Pok.inside {col:PM}(h:Pok N r c)(hr:PD N r){s:Qj}(hs:s.1=PO c)(h1:col.1=PO c)(h2:col.2.1<s.2.2):Pok N (s::r) col:=by
 have am:PO c≠[]:=by unfold PO;simp
 have e:PO col=PO c++[col.2.1]:=by show col.1++_=_;rw [h1]
 refine ⟨?_,?_,?_⟩
 ·rw [e];exact h.reach.down hs am _ h2
 ·rw [e];intro y hy;rcases Qa.1 hy with rfl | hy
  ·rw [hs];intro q;have:=congrArg List.length q;simp at this
  exact hr.fresh am h.new _ y hy
 rw [e];have:=h.len;simp;omega
theorem sp0 (ha:ax<cols.length)(hn:(cols.map PO).Nodup):((cols.take ax++cols.drop (ax+1)).map PO).Nodup/\∀c∈cols.take ax++cols.drop (ax+1),PO c≠PO cols[ax]:=by
 have e:cols=cols.take ax++(cols[ax]::cols.drop (ax+1)):=by rw [<-Ur ha,Ug]
 rw [e,R6,Re] at hn;rw [S7] at hn;obtain ⟨h1,h2,h3⟩:=hn;rw [U6] at h2;have ed:(List.take ax cols++cols[ax]::List.drop (ax+1) cols)[ax]'(by rw [<-e];exact ha)=cols[ax]:=by
  congr 1
  exact e.symm
 refine ⟨?_,?_⟩
 ·rw [R6,S7];exact ⟨h1,h2.2,λa ha b hb=>h3 a ha b (RI _ hb)⟩
 intro c hc;rcases PE.1 hc with hc | hc
 ·exact h3 _ (PI.2 ⟨c,hc,rfl⟩) _ (by simp)
 exact λq=>h2.1 (by rw [<-q];exact PI.2 ⟨c,hc,rfl⟩)
theorem KS (ai:List Nat)(lines:List (Nat×List Pt)):∀w,((QA ai w lines).map (·.2.1)).Nodup/\∀c∈QA ai w lines,c.1=ai/\c.2.1<w
 | 0=>⟨by simp [QA],λc hc=>by simp [QA] at hc⟩
 | w+1=>by
  obtain ⟨h1,h2⟩:=KS ai lines w;rw [KZ];by_cases he:(Pq w lines).isEmpty=true
  ·rw [Pc he,SH];exact ⟨h1,λc hc=>⟨(h2 c hc).1,by have:=(h2 c hc).2;omega⟩⟩
  rw [P7 he,R6,S7];refine ⟨⟨h1,by simp,λa ha b hb=> ?_⟩,λc hc=> ?_⟩
  ·obtain ⟨c,hc,rfl⟩:=PI.1 ha;have:=(h2 c hc).2;simp at hb;omega
  rcases PE.1 hc with hc | hc
  ·exact ⟨(h2 c hc).1,by have:=(h2 c hc).2;omega⟩
  obtain rfl:=Ra.1 hc;exact ⟨rfl,by show w<w+1;omega⟩
theorem YJ (hk:KnOk k fs)(c:Cs):(Pr k c).2<=8/\(Pr k c).2=(O' k c.1).2.2:=by
 unfold Pr;split
 ·rename_i h;rw [h,Xr hk];exact ⟨by show 0<=8;omega,rfl⟩
 exact ⟨WU hk _,rfl⟩
theorem LB (hk:KnOk k fs)(cs:List Cs):(R8 k fs cs).2<=8:=by
 cases cs with
 | nil=>simp [R8]
 | cons c r=>
  unfold R8;simp only;split
  ·exact (YJ hk _).1
  exact (YJ hk _).1
theorem sr0 {d:PM}(hc:Pok N r c)(hd:Pok N r d)(i:Nat):PO d≠PO c++[i]:=λe=>by
 have am:PO c≠[]:=by unfold PO;simp
 have h1:=hd.reach;rw [e] at h1;rcases h1 (PO c).length (by simp) with ⟨h0,_⟩ | ⟨_,z,hz,h5,_⟩
 ·exact am (Yd h0)
 rw [Nu rfl] at h5;exact hc.new z hz h5
theorem ss0 {k:Kn}{fs:List Pu}(hk:KnOk k fs)(N:Nat):∀(f n:Nat) (cols:List PM) (rows:List Nat) (r ao:List Qj),PD N r->(∀c∈cols,Pok N r c)->(cols.map PO).Nodup->Qx k fs f (Ps k fs f n cols rows).1=some ao->PD N (ao++r)/\∀s∈ao,s.2.2<=8
 | 0,_,_,_,_,_,_,_,_,h=>by cases h
 | f+1,n,cols,rows,r,ao,hr,hp,hn,h=>by
  by_cases hb:5000<=n
  ·rw [Vq _ _ _ _ _ _ hb,Yo] at h;simp [Ql,Qz] at h
  cases rows with
  | nil=>
   rw [VW _ _ _ _ _ (by omega),Yo] at h;simp [Ql] at h;subst h;exact ⟨hr,λs hs=>by simp at hs⟩
  | cons ew rows=>
   cases hi:cols.findIdx? (Rx ew) with
   | none=>
    rw [V9 _ _ _ _ _ _ _ (by omega) hi,Yo] at h;simp [Ql] at h
   | some ax=>
    have ha:ax<cols.length:=(SP.1 hi).1;rw [Vz _ _ _ _ _ _ _ _ ha (by omega) hi,Yo] at h;have jh:=hp _ (Px ha);obtain ⟨cR,j8⟩:=sp0 ha hn;have bN:∀c∈cols.take ax++cols.drop (ax+1),Pok N r c:=λc hc=>by
     rcases PE.1 hc with hc | hc
     ·exact hp c (Sa hc)
     exact hp c (Sn hc)
    have fin:∀(s:Qj),s.1=PO cols[ax]->s.2.2<=8->∀(u:List Qj) (bF:List PM) (bO:List Nat) (q:Nat),(∀c∈bF,Pok N (s::r) c)->(bF.map PO).Nodup->Qx k fs f (Ps k fs f q bF bO).1=some u->PD N ((u++[s])++r)/\∀t∈u++[s],t.2.2<=8:=λs hs h8 u bF bO q h1 h2 h3=>by
     obtain ⟨q1,q2⟩:=ss0 hk N f q bF bO (s::r) u (jh.ok hr hs) h1 h2 h3;refine ⟨by rw [T5];exact q1,λt ht=> ?_⟩;rcases PE.1 ht with ht | ht
     ·exact q2 t ht
     rw [Ra.1 ht];exact h8
    have uP:∀(x:Cs) (q:Nat) (u:List Qj),Qx k fs f (PG k fs f cols (ew::rows) ax (PK cols[ax].2.2 (ew::rows)) (cols[ax].1++[cols[ax].2.1]) x q).1=some u->PD N ((u++[(cols[ax].1++[cols[ax].2.1],Pr k x)])++r)/\∀t∈u++[(cols[ax].1++[cols[ax].2.1],Pr k x)],t.2.2<=8:=λx q u hu=>by
     obtain ⟨iu,hw2⟩:=KS (cols[ax].1++[cols[ax].2.1]) (RX ((PK cols[ax].2.2 (ew::rows)).filter (Pk x))) (O' k x.1).2.2;refine fin (cols[ax].1++[cols[ax].2.1],Pr k x) rfl (YJ hk x).1 u _ _ q (λc hc=> ?_) ?_ hu
     ·rcases PE.1 hc with hc | hc
      ·rcases PE.1 hc with hc | hc
       ·exact (bN c (PE.2 (.inl hc))).on λe=>j8 c (PE.2 (.inl hc)) e.symm
       obtain ⟨q1,q2⟩:=hw2 c hc;exact jh.inside hr rfl q1 (by rw [(YJ hk x).2];exact q2)
      exact (bN c (PE.2 (.inr hc))).on λe=>j8 c (PE.2 (.inr hc)) e.symm
     have F0:((within k ((PK cols[ax].2.2 (ew::rows)).filter (Pk x)) x.1 (cols[ax].1++[cols[ax].2.1])).map PO).Nodup:=by
      have e:(within k ((PK cols[ax].2.2 (ew::rows)).filter (Pk x)) x.1 (cols[ax].1++[cols[ax].2.1])).map PO=((within k ((PK cols[ax].2.2 (ew::rows)).filter (Pk x)) x.1 (cols[ax].1++[cols[ax].2.1])).map (·.2.1)).map λi=>(cols[ax].1++[cols[ax].2.1])++[i]:=by
       rw [TL];refine Zg λc hc=> ?_;show c.1++[c.2.1]=_;rw [(hw2 c hc).1]
       rfl
      rw [e];refine K8 _ (λa b dQ=> ?_) iu;intro q;exact dQ (by simpa using q)
     have oP:∀a∈within k ((PK cols[ax].2.2 (ew::rows)).filter (Pk x)) x.1 (cols[ax].1++[cols[ax].2.1]),∀b∈cols.take ax++cols.drop (ax+1),PO a≠PO b:=λa F1 b eN e=>by
      have:=sr0 jh (bN b eN) a.2.1;refine this ?_;rw [<-e];show a.1++_=_;rw [(hw2 a F1).1]
      rfl
     rw [R6,R6,T5,S7];rw [R6,S7] at cR;refine ⟨cR.1,?_,?_⟩
     ·rw [S7];refine ⟨F0,cR.2.1,λa ha b hb=> ?_⟩;obtain ⟨a',sH,rfl⟩:=PI.1 ha;obtain ⟨b',aj,rfl⟩:=PI.1 hb;exact oP a' sH b' (PE.2 (.inr aj))
     intro a ha b hb;rcases PE.1 hb with hb | hb
     ·obtain ⟨a',sH,rfl⟩:=PI.1 ha;obtain ⟨b',aj,rfl⟩:=PI.1 hb;exact λq=>oP b' aj a' (PE.2 (.inl sH)) q.symm
     exact cR.2.2 a ha b hb
    have uQ:∀(cs:List Cs) (q:Nat) (u:List Qj),Qx k fs f (Ps k fs f q (cols.take ax++cols.drop (ax+1)) (QE (ew::rows) (PK cols[ax].2.2 (ew::rows)))).1=some u->PD N ((u++[(cols[ax].1++[cols[ax].2.1],R8 k fs cs)])++r)/\∀t∈u++[(cols[ax].1++[cols[ax].2.1],R8 k fs cs)],t.2.2<=8:=λcs q u hu=>by
     refine fin (cols[ax].1++[cols[ax].2.1],R8 k fs cs) rfl (LB hk cs) u _ _ q (λc hc=>(bN c hc).on λe=>j8 c hc e.symm) cR hu
    clear fin hp hn cR j8 bN;unfold T9 at h;simp only at h;generalize PK cols[ax].2.2 (ew::rows)=af at *
    generalize PG k fs f cols (ew::rows) ax af (cols[ax].1++[cols[ax].2.1])=step at *
    have At:∀(l2:List (Tr f)),(∀e∈l2,∃q,e=(Ps k fs f q (cols.take ax++cols.drop (ax+1)) (QE (ew::rows) af)).1)->Ql k fs f 3 (cols[ax].1++[cols[ax].2.1]) ((Pg k af).zip (P9 step (Pg k af) (n+1)).1) l2=some ao->PD N (ao++r)/\∀s∈ao,s.2.2<=8:=λl2 cj h=>by
     unfold Ql at h;rw [P7 (by decide)] at h;split at h
     ·rename_i z hz;obtain rfl:=Qs h;obtain ⟨c,hc,hcz⟩:=G4 hz;obtain ⟨_,q,hq⟩:=Zt _ _ c.1 c.2 hc;cases hu:Qx k fs f c.2 with
      | none=>rw [hu] at hcz;cases hcz
      | some u=>
       rw [hu] at hcz;obtain rfl:=Qs hcz;rw [hq] at hu;exact uP c.1 q u hu
     obtain ⟨e,he,BZ⟩:=G4 h;obtain ⟨q,rfl⟩:=cj e he;cases hu:Qx k fs f (Ps k fs f q (cols.take ax++cols.drop (ax+1)) (QE (ew::rows) af)).1 with
     | none=>rw [hu] at BZ;cases BZ
     | some u=>
      rw [hu] at BZ;obtain rfl:=Qs BZ;exact uQ _ q u hu
    split at h
    ·exact At [] (λe he=>by simp at he) h
    exact At _ (λe he=>⟨_,Ra.1 he⟩) h
theorem st0 (hk:KnOk k fs)(f n aH:Nat)(lines:List (Nat×List Pt))(rows:List Nat)(ao:List Qj)(h:Qx k fs f (Ps k fs f n (QA [] aH lines) rows).1=some ao):PD aH ao/\∀s∈ao,s.2.2<=8:=by
 obtain ⟨h1,h2⟩:=KS [] lines aH;have:=ss0 hk aH f n (QA [] aH lines) rows [] ao trivial (λc hc=> ?_) ?_ h
 ·rw [SH] at this;exact this
 ·obtain ⟨q1,q2⟩:=h2 c hc;have e:PO c=[c.2.1]:=by show c.1++_=_;rw [q1];rfl
  refine ⟨?_,λy hy=>by simp at hy,by rw [e];simp⟩;rw [e];intro j hj;obtain rfl:j=0:=by simp at hj;omega
  exact .inl ⟨rfl,q2⟩
 have e:(QA [] aH lines).map PO=((QA [] aH lines).map (·.2.1)).map λi=> [i]:=by
  rw [TL];refine Zg λc hc=> ?_;show c.1++[c.2.1]=_;rw [(h2 c hc).1]
  rfl
 rw [e];refine K8 _ (λa b dQ=> ?_) h1;intro q;exact dQ (by simpa using q)
