import Derived.Test.YtpdmkhnonbbhnaaGreatMvx
import Derived.Test.YtpdmkhnonbbhnaaGreatMsx
namespace Go.Proofs.YtpdmkhnonbbhnaaGreat
variable {acc:List Qj}{n:Nat}{k:Kn}{fs:List Pu}
theorem NO (s:Qj)(ao:List Qj)(p:List Nat):PY (s::ao) p=if s.1=p then s.2 else PY ao p:=by
 unfold PY;rw [Ni];by_cases h:s.1=p
 ·rw [Pc h];have:(s.1==p)=true:=by rw [h];exact NR _
  rw [this]
 rw [P7 h];have:(s.1==p)=false:=Y2.2 h;rw [this]
theorem bm1 {ao:List Qj}{p:List Nat}(h:∀y∈ao,y.1≠p):PY ao p=((1,[],0),0):=by
 unfold PY;have:ao.find? (λs=>s.1==p)=none:=Ec.2 λy hy e=>h y hy (Us e);rw [this]
theorem wV {n:Nat}:∀{st:List Qj},PD n st->∀{y:Qj},y∈st->PY st y.1=y.2
 | x::r,h,y,hy=>by
  obtain ⟨h1,_,_,_,h5⟩:=h;rw [NO];rcases Qa.1 hy with rfl | hy
  ·rw [Pc rfl]
  rw [P7 λe=>h5 y hy e.symm];exact wV h1 hy
theorem V4 (h8:∀y∈acc,y.2.2<=8)(p:List Nat):(PY acc p).2<=8:=by
 unfold PY;cases h:acc.find? (λs=>s.1==p) with
 | none=>show 0<=8;omega
 | some s=>exact h8 s (L7 h)
theorem DT {s:Qj}{acc:List Qj}:∀(d:Nat) (p:List Nat),¬p<+:s.1->So (s::acc) d p=So acc d p
 | 0,p,h=>by
  unfold So;rw [NO,P7 λe=>h (by rw [e];exact OT _)]
 | d+1,p,h=>by
  unfold So;rw [NO,P7 λe=>h (by rw [e];exact OT _)]
  congr 1
  exact Zg λi _=>DT d (p++[i]) λe=>h ((MM p [i]).trans e)
def RT (ao:List Qj)(d:Nat)(p:List Nat):Pt:=⟨d+1,So ao d p⟩
theorem ZY (ao:List Qj):∀(d:Nat) (p:List Nat),(RT ao d p).lab=(PY ao p).1
 | 0,_=>rfl
 | _+1,_=>rfl
theorem XG (ao:List Qj)(d:Nat)(p:List Nat):(RT ao (d+1) p).kids=(List.range (PY ao p).2).map λi=>RT ao d (p++[i]):=by
 show List.map _ (List.map _ _)=_;rw [TL]
 rfl
def XC:List Nat->Pt->Pt->Pt->Prop
 | [],_,q,p'=>p'=q
 | i::ρ,p,q,p'=>∃(h:i<p.kids.length) (u:Pt),p'.lab=p.lab/\p'.kids=p.kids.set i u/\p.kids.length<=1000/\XC ρ p.kids[i] q u
theorem xe1 {s:Qj}{acc:List Qj}(h8:∀y∈acc,y.2.2<=8):∀(ρ π:List Nat) (d:Nat),s.1=π++ρ->ρ.length<=d->(∀j (h:j<ρ.length),ρ[j]<(PY acc (π++ρ.take j)).2)->XC ρ (RT acc d π) (RT (s::acc) (d-ρ.length) s.1) (RT (s::acc) d π)
 | [],π,d,hs,_,_=>by
  show RT _ d π=RT _ (d-0) s.1;rw [hs,SH]
  rfl
 | i::ρ,π,0,_,h,_=>absurd h (by simp)
 | i::ρ,π,d+1,hs,hd,hr=>by
  have hi:i<(PY acc π).2:=by
   have h0:=hr 0 (by simp);rw [List.take_zero,SH] at h0;exact h0
  have hl:PY (s::acc) π=PY acc π:=by
   rw [NO,P7];intro e;rw [hs] at e;have:=congrArg List.length e;simp at this
  have eZ:i<(RT acc (d+1) π).kids.length:=by rw [XG];simpa using hi
  refine ⟨eZ,RT (s::acc) d (π++[i]),by rw [ZY,ZY,hl],?_,?_,?_⟩
  ·rw [XG,XG,hl];refine List.ext_getElem (by simp) λj h1 h2=> ?_;rw [R7,X2,ON];split
   ·rename_i e;rw [e]
   rename_i e;rw [R7,X2];show (⟨d+1,So (s::acc) d (π++[j])⟩:Pt)=⟨d+1,So acc d (π++[j])⟩;rw [DT d _ λhp=> ?_];rw [hs] at hp;have:=(List.prefix_append_right_inj π).1 hp;exact e (List.cons_prefix_cons.1 this).1.symm
  ·rw [XG];have:=V4 h8 π;simp;omega
  have e:(RT acc (d+1) π).kids[i]=RT acc d (π++[i]):=by
   rw [List.getElem_of_eq (XG acc d π) eZ];simp
  rw [e,show d+1-(i::ρ).length=d-ρ.length by simp];refine xe1 h8 ρ (π++[i]) d (by rw [hs];simp) (by simpa using hd) λj h=> ?_;have:=hr (j+1) (by simpa using h);simpa using this
def Sg (D n:Nat)(ao:List Qj):Pt:=⟨D+2,(((0,[],0),Qi D n ao):Pn (D+2))⟩
theorem YW (D n:Nat)(ao:List Qj):(Sg D n ao).kids=(List.range n).map λi=>RT ao D [i]:=by
 show List.map _ (List.map _ _)=_;rw [TL]
 rfl
theorem Xb {D:Nat}{s:Qj}(h:PD n (s::acc))(h8:∀y∈acc,y.2.2<=8)(hn:n<=16)(hD:s.1.length<=D):XC s.1 (Sg D n acc) (RT (s::acc) (D+1-s.1.length) s.1) (Sg D n (s::acc)):=by
 obtain ⟨h1,h2,_,h4,_⟩:=h;cases hs:s.1 with
 | nil=>exact absurd hs h2
 | cons c ρ=>
  rw [hs] at h4 hD;have hc:c<n:=by
   rcases h4 0 (by simp) with ⟨_,e⟩ | ⟨e,_⟩
   ·exact e
   omega
  have eZ:c<(Sg D n acc).kids.length:=by rw [YW];simpa using hc
  refine ⟨eZ,RT (s::acc) D [c],rfl,?_,?_,?_⟩
  ·rw [YW,YW];refine List.ext_getElem (by simp) λj h1 h2=> ?_;rw [R7,X2,ON];split
   ·rename_i e;rw [e]
   rename_i e;rw [R7,X2];show (⟨D+1,So (s::acc) D [j]⟩:Pt)=⟨D+1,So acc D [j]⟩;rw [DT D _ λhp=> ?_];rw [hs] at hp;exact e (List.cons_prefix_cons.1 hp).1.symm
  ·rw [YW];simp;omega
  have e:(Sg D n acc).kids[c]=RT acc D [c]:=by
   rw [List.getElem_of_eq (YW D n acc) eZ];simp
  rw [e];have hd:ρ.length<=D:=by simp at hD;omega
  have:=xe1 (s:=s) (acc:=acc) h8 ρ [c] D (by rw [hs];rfl) hd λj hj=>by
   rcases h4 (j+1) (by simpa using hj) with ⟨e,_⟩ | ⟨_,y,hy,e1,e2⟩
   ·omega
   have e3:((c::ρ).take (j+1))=[c]++ρ.take j:=by simp
   rw [<-e3,<-e1,wV h1 hy];simpa using e2
  rw [hs] at this;rw [show D+1-(c::ρ).length=D-ρ.length by simp];exact this
theorem XQ {s:Qj}(h:PD n (s::acc))(d:Nat):(RT (s::acc) (d+1) s.1).lab=s.2.1/\(RT (s::acc) (d+1) s.1).kids.length=s.2.2/\∀u∈(RT (s::acc) (d+1) s.1).kids,u.lab=(1,[],0)/\u.kids=[]:=by
 have hl:PY (s::acc) s.1=s.2:=by rw [NO,Pc rfl]
 refine ⟨by rw [ZY,hl],by rw [XG,hl];simp,λu hu=> ?_⟩;rw [XG] at hu;obtain ⟨i,_,rfl⟩:=PI.1 hu;have hn:PY (s::acc) (s.1++[i])=((1,[],0),0):=by
  refine bm1 λy hy e=> ?_;rcases Qa.1 hy with rfl | hy
  ·have:=congrArg List.length e;simp at this
  exact h.1.fresh h.2.1 h.2.2.2.2 i y hy e
 refine ⟨by rw [ZY,hn],?_⟩;cases d with
 | zero=>rfl
 | succ d=>rw [XG,hn];rfl
def SD (k:Kn)(fs:List Pu)(N:Nat):(f:Nat)->Tr f->List Qj->Prop
 | 0,_,_=>True
 | f+1,t,r=>(∀c∈t.2.1,((c.1.1≠[]->∃e,look k c.1.1=some e)/\PD N ((t.1.2.2,Pr k c.1)::r))/\SD k fs N f c.2 ((t.1.2.2,Pr k c.1)::r))/\
  ∀e∈t.2.2,((∃af,af≠[]/\together k af=true/\t.2.1.map (·.1)=Pg k af/\Ss k fs (Pg k af)=false)/\PD N ((t.1.2.2,R8 k fs (t.2.1.map (·.1)))::r))/\SD k fs N f e ((t.1.2.2,R8 k fs (t.2.1.map (·.1)))::r)
theorem SD.leaf {N f:Nat}{x:Int×Nat×List Nat}{r:List Qj}:SD k fs N (f+1) (x,[],[]) r:=⟨λc h=>by simp at h,λc h=>by simp at h⟩
theorem SD.zero (k:Kn)(fs:List Pu)(N:Nat)(r:List Qj):∀f,SD k fs N f (Qz f) r
 | 0=>trivial
 | _+1=>SD.leaf
theorem K0 {k:Kn}{fs:List Pu}(hk:KnOk k fs)(N:Nat):∀(f n:Nat) (cols:List PM) (rows:List Nat) (m:Nat) (r:List Qj),PD N r->(∀c∈cols,Pok N r c)->(cols.map PO).Nodup->(∀c∈cols,Good k m c)->SD k fs N f (Ps k fs f n cols rows).1 r
 | 0,_,_,_,_,_,_,_,_,_=>trivial
 | f+1,n,cols,rows,m,r,hr,hp,hn,hg=>by
  by_cases hb:5000<=n
  ·rw [Vq _ _ _ _ _ _ hb];exact SD.zero _ _ _ _ _
  cases rows with
  | nil=>
   rw [VW _ _ _ _ _ (by omega)];exact SD.leaf
  | cons ew rows=>
   cases hi:cols.findIdx? (Rx ew) with
   | none=>
    rw [V9 _ _ _ _ _ _ _ (by omega) hi];exact SD.leaf
   | some ax=>
    have ha:ax<cols.length:=(SP.1 hi).1;rw [Vz _ _ _ _ _ _ _ _ ha (by omega) hi];have jh:=hp _ (Px ha);have ms:=hg _ (Px ha);have am:=MQ (rows:=rows) ha hi;have jo:together k (PK cols[ax].2.2 (ew::rows))=true:=(ms.right.sub hk TW).together;obtain ⟨cR,j8⟩:=sp0 ha hn;have bN:∀c∈cols.take ax++cols.drop (ax+1),Pok N r c:=λc hc=>by
     rcases PE.1 hc with hc | hc
     ·exact hp c (Sa hc)
     exact hp c (Sn hc)
    have uP:∀(x:Cs),x∈Pg k (PK cols[ax].2.2 (ew::rows))->∀(q:Nat),SD k fs N f (PG k fs f cols (ew::rows) ax (PK cols[ax].2.2 (ew::rows)) (cols[ax].1++[cols[ax].2.1]) x q).1 ((cols[ax].1++[cols[ax].2.1],Pr k x)::r):=λx hx q=>by
     obtain ⟨iu,hw2⟩:=KS (cols[ax].1++[cols[ax].2.1]) (RX ((PK cols[ax].2.2 (ew::rows)).filter (Pk x))) (O' k x.1).2.2;refine K0 hk N f q _ _ (m+1) _ (jh.ok hr rfl) (λc hc=> ?_) ?_ (λc hc=> ?_)
     ·rcases PE.1 hc with hc | hc
      ·rcases PE.1 hc with hc | hc
       ·exact (bN c (PE.2 (.inl hc))).on λe=>j8 c (PE.2 (.inl hc)) e.symm
       obtain ⟨q1,q2⟩:=hw2 c hc;exact jh.inside hr rfl q1 (by rw [(YJ hk x).2];exact q2)
      exact (bN c (PE.2 (.inr hc))).on λe=>j8 c (PE.2 (.inr hc)) e.symm
     ·have F0:((within k ((PK cols[ax].2.2 (ew::rows)).filter (Pk x)) x.1 (cols[ax].1++[cols[ax].2.1])).map PO).Nodup:=by
       have e:(within k ((PK cols[ax].2.2 (ew::rows)).filter (Pk x)) x.1 (cols[ax].1++[cols[ax].2.1])).map PO=((within k ((PK cols[ax].2.2 (ew::rows)).filter (Pk x)) x.1 (cols[ax].1++[cols[ax].2.1])).map (·.2.1)).map λi=>(cols[ax].1++[cols[ax].2.1])++[i]:=by
        rw [TL];refine Zg λc hc=> ?_;show c.1++[c.2.1]=_;rw [(hw2 c hc).1]
        rfl
       rw [e];refine K8 _ (λa b dQ=> ?_) iu;intro q;exact dQ (by simpa using q)
      have oP:∀a∈within k ((PK cols[ax].2.2 (ew::rows)).filter (Pk x)) x.1 (cols[ax].1++[cols[ax].2.1]),∀b∈cols.take ax++cols.drop (ax+1),PO a≠PO b:=λa F1 b eN e=>by
       have:=sr0 jh (bN b eN) a.2.1;refine this ?_;rw [<-e];show a.1++_=_;rw [(hw2 a F1).1]
       rfl
      rw [R6,R6,T5,S7];rw [R6,S7] at cR;refine ⟨cR.1,?_,?_⟩
      ·rw [S7];refine ⟨F0,cR.2.1,λa ha b hb=> ?_⟩;obtain ⟨a',sH,rfl⟩:=PI.1 ha;obtain ⟨b',aj,rfl⟩:=PI.1 hb;exact oP a' sH b' (PE.2 (.inr aj))
      intro a ha b hb;rcases PE.1 hb with hb | hb
      ·obtain ⟨a',sH,rfl⟩:=PI.1 ha;obtain ⟨b',aj,rfl⟩:=PI.1 hb;exact λq=>oP b' aj a' (PE.2 (.inl sH)) q.symm
      exact cR.2.2 a ha b hb
     rcases PE.1 hc with hc | hc
     ·rcases PE.1 hc with hc | hc
      ·exact (hg c (Sa hc)).up (by omega)
      exact ms.within hk (ew::rows) hx hc
     exact (hg c (Sn hc)).up (by omega)
    have uQ:∀(cs:List Cs) (q:Nat),SD k fs N f (Ps k fs f q (cols.take ax++cols.drop (ax+1)) (QE (ew::rows) (PK cols[ax].2.2 (ew::rows)))).1 ((cols[ax].1++[cols[ax].2.1],R8 k fs cs)::r):=λcs q=>
     K0 hk N f q _ _ m _ (jh.ok hr rfl) (λc hc=>(bN c hc).on λe=>j8 c hc e.symm) cR λc hc=>by
      rcases PE.1 hc with hc | hc
      ·exact hg c (Sa hc)
      exact hg c (Sn hc)
    have oO:∀q:Lb×Nat,PD N ((cols[ax].1++[cols[ax].2.1],q)::r):=λq=>jh.ok hr rfl;clear hp hn cR j8 bN jh ms;unfold T9;simp only;generalize PK cols[ax].2.2 (ew::rows)=af at *
    generalize PG k fs f cols (ew::rows) ax af (cols[ax].1++[cols[ax].2.1])=step at *
    have h1:∀c∈(Pg k af).zip (P9 step (Pg k af) (n+1)).1,((c.1.1≠[]->∃e,look k c.1.1=some e)/\PD N ((cols[ax].1++[cols[ax].2.1],Pr k c.1)::r))/\SD k fs N f c.2 ((cols[ax].1++[cols[ax].2.1],Pr k c.1)::r):=λc hc=>by
     obtain ⟨q1,q,q2⟩:=Zt _ _ c.1 c.2 hc;refine ⟨⟨λh=> ?_,oO _⟩,by rw [q2];exact uP _ q1 q⟩;obtain ⟨e,h3,_⟩:=(us hk jo q1).2 h;exact ⟨e,h3⟩
    have uO:=sj0 (step:=step) (Pg k af) (n+1);split
    ·exact ⟨h1,λe he=>by simp at he⟩
    rename_i hf;refine ⟨h1,λe he=> ?_⟩;rw [Ra.1 he];exact ⟨⟨⟨af,am,jo,uO,by simpa using hf⟩,oO _⟩,uQ _ _⟩
theorem bn1 (hk:KnOk k fs)(f n aH:Nat)(lines:List (Nat×List Pt))(rows:List Nat)(m:Nat)(hg:∀c∈QA [] aH lines,Good k m c):SD k fs aH f (Ps k fs f n (QA [] aH lines) rows).1 []:=by
 obtain ⟨h1,h2⟩:=KS [] lines aH;refine K0 hk aH f n (QA [] aH lines) rows m [] trivial (λc hc=> ?_) ?_ hg
 ·obtain ⟨q1,q2⟩:=h2 c hc;have e:PO c=[c.2.1]:=by show c.1++_=_;rw [q1];rfl
  refine ⟨?_,λy hy=>by simp at hy,by rw [e];simp⟩;rw [e];intro j hj;obtain rfl:j=0:=by simp at hj;omega
  exact .inl ⟨rfl,q2⟩
 have e:(QA [] aH lines).map PO=((QA [] aH lines).map (·.2.1)).map λi=> [i]:=by
  rw [TL];refine Zg λc hc=> ?_;show c.1++[c.2.1]=_;rw [(h2 c hc).1]
  rfl
 rw [e];refine K8 _ (λa b dQ=> ?_) h1;intro q;exact dQ (by simpa using q)
def Qo:List Int->Nat->Nat
 | [],g=>g
 | x::r,g=>Qo r (if x=(g:Int) then g+1 else g)
theorem OH:∀(l:List Int) (g:Nat),g<=Qo l g
 | [],_=>P6 _
 | x::r,g=>by
  unfold Qo;by_cases e:x=(g:Int)
  ·rw [Pc e];have:=OH r (g+1);omega
  rw [P7 e];exact OH r g
theorem M9:∀(l:List Int) (g:Nat),(∀x∈l,x≠(g:Int))->Qo l g=g
 | [],_,_=>rfl
 | x::r,g,h=>by
  unfold Qo;rw [P7 (h x (by simp))];exact M9 r g λy hy=>h y (by simp [hy])
theorem MJ:∀(l:List Int) (g:Nat),l.Pairwise (· < ·)->∀x∈l,x≠(Qo l g:Int)
 | a::r,g,h,x,hx=>by
  obtain ⟨h1,h2⟩:=U5.1 h;unfold Qo;rcases Qa.1 hx with rfl | hx
  ·by_cases e:x=(g:Int)
   ·rw [Pc e];have:=OH r (g+1);omega
   rw [P7 e];by_cases hl:x<(g:Int)
   ·have:=OH r g;omega
   rw [M9 r g λy hy=>by have:=h1 y hy;omega];exact e
  exact MJ r _ h2 x hx
theorem K9:∀(l:List Int) (g j:Nat),g<=j->j<Qo l g->(j:Int)∈l
 | [],g,j,h,h'=>by unfold Qo at h';omega
 | a::r,g,j,h,h'=>by
  unfold Qo at h';by_cases e:a=(g:Int)
  ·rw [Pc e] at h';by_cases ej:j=g
   ·rw [ej,e];simp
   exact RI _ (K9 r (g+1) j (by omega) h')
  rw [P7 e] at h';exact RI _ (K9 r g j h h')
theorem Es (k:Kn):∀(l:List Cs) (g:Nat),PJ k [] l g=Qo (l.map (·.2)) g
 | [],_=>rfl
 | c::r,g=>by
  unfold PJ;rw [Es k r,Re];show _=Qo (List.map _ r) (if c.2=(g:Int) then g+1 else g)
  congr 1
  simp
theorem FP (k:Kn){con:Qg}(hc:con≠[]):∀(l:List Cs) (g:Nat),PJ k con l g=Qo (l.map λc=>((O' k c.1).2.1:Int)) g
 | [],_=>rfl
 | c::r,g=>by
  unfold PJ;rw [FP k hc r,Re];show _=Qo (List.map _ r) (if ((O' k c.1).2.1:Int)=(g:Int) then g+1 else g)
  congr 1
  by_cases e:(O' k c.1).2.1=g
  ·rw [Pc (.inr ⟨hc,e⟩),Pc (by omega)]
  rw [P7 (λh=>h.elim (λh=>hc h.1) λh=>e h.2),P7 (by omega)]
