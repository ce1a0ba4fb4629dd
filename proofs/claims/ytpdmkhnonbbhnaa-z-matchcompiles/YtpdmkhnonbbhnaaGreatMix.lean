import Derived.Test.YtpdmkhnonbbhnaaGreatMhx
namespace Go.Proofs.YtpdmkhnonbbhnaaGreat
open Go.RowKit Go.Maps
set_option maxHeartbeats 4000000
set_option maxRecDepth 10000
section
variable {k:Kn}{fs:List Pu}{af:List Sp}{p:Pt}
structure KnOk (k:Kn)(fs:List Pu):Prop where
 place:∀e∈k,∀e'∈k,e.2.1=e'.2.1->e.2.2.1=e'.2.2.1->e.1=e'.1
 name:∀e∈k,e.1≠[]
 fields:∀e∈k,e.2.2.2<=8
 family:∀e∈k,e.2.1<fs.length
theorem Su {n:Qg}{c:Nat×Nat×Nat}(h:look k n=some c):(n,c)∈k:=by
 unfold look at h;rw [VZ] at h;obtain ⟨e,h1,h2⟩:=h;have h3:=List.find?_some h1;have h4:=L7 h1;have:e.1=n:=by simpa using h3
 rw [<-this,<-h2];exact h4
theorem Xr (h:KnOk k fs):O' k []=(0,0,0):=by
 unfold O';cases hl:look k [] with
 | none=>rfl
 | some c=>exact absurd rfl (h.name _ (Su hl))
theorem WU (h:KnOk k fs)(n:Qg):(O' k n).2.2<=8:=by
 unfold O';cases hl:look k n with
 | none=>simp
 | some c=>exact h.fields _ (Su hl)
theorem qv0 {f s:Pt}(h:Ul k f s=true):s.kind=f.kind/\Q8 k s=true/\(f.kind=4->(O' k s.name).1=(O' k f.name).1):=by
 unfold Ul at h;simp only [Tj,Fz,WY,bne_iff_ne] at h;exact ⟨h.1.1,h.1.2,λh4=>h.2.resolve_left (λh5=>h5 h4)⟩
theorem SF (h:together k af=true):∀s∈af,∀t∈af,s.2.kind=t.2.kind/\Q8 k s.2=true/\(t.2.kind=4->(O' k s.2.name).1=(O' k t.2.name).1):=by
 cases af with
 | nil=>intro s hs;simp at hs
 | cons f r=>
  have h:(f::r).all (λs=>Ul k f.2 s.2)=true:=h;rw [TK] at h;intro s hs t ht;obtain ⟨a1,a2,a3⟩:=qv0 (h s hs);obtain ⟨b1,b2,b3⟩:=qv0 (h t ht);exact ⟨a1.trans b1.symm,a2,λh4=>(a3 (b1.symm.trans h4)).trans (b3 (b1.symm.trans h4)).symm⟩
theorem qw0 (h:∀s∈af,∀t∈af,s.2.kind=t.2.kind/\Q8 k s.2=true/\(t.2.kind=4->(O' k s.2.name).1=(O' k t.2.name).1)):together k af=true:=by
 cases af with
 | nil=>rfl
 | cons f r=>
  show (f::r).all (λs=>Ul k f.2 s.2)=true;rw [TK];intro s hs;obtain ⟨a1,a2,a3⟩:=h s hs f (by simp);unfold Ul;simp only [Tj,Fz,WY,bne_iff_ne];refine ⟨⟨a1,a2⟩,?_⟩;by_cases h4:f.2.kind=4
  ·exact .inr (a3 h4)
  exact .inl h4
theorem P' (h:Q8 k p=true):p.kind=3\/p.kind=4:=by
 unfold Q8 at h;by_cases h3:p.kind=3
 ·exact .inl h3
 rw [P7 h3] at h;by_cases h4:p.kind=4
 ·exact .inr h4
 rw [P7 h4] at h;cases h
theorem Tg (h:Q8 k p=true)(h4:p.kind=4):∃c,look k p.name=some c/\p.kids.length=c.2.2/\O' k p.name=c:=by
 unfold Q8 at h;rw [P7 (by omega),Pc h4] at h;unfold O';cases hl:look k p.name with
 | none=>rw [hl] at h;cases h
 | some c=>rw [hl] at h;exact ⟨c,rfl,by simpa using h,rfl⟩
theorem Uf (hk:KnOk k fs)(h:together k af=true):Tp k (af.map λs=>PA s.2):=by
 intro a ha b hb h1 h2;obtain ⟨s,hs,rfl⟩:=PI.1 ha;obtain ⟨t,ht,rfl⟩:=PI.1 hb;obtain ⟨e1,e2,e3⟩:=SF h s hs t ht;obtain ⟨_,e4,_⟩:=SF h t ht s hs;have h1:¬Q1 k (PA s.2) (PA t.2)=true:=by simp [h1]
 have h2:¬Q1 k (PA t.2) (PA s.2)=true:=by simp [h2]
 rw [UD] at h1 h2;have hp:(O' k (PA s.2).1).2.1=(O' k (PA t.2).1).2.1:=by omega
 have hn:(PA s.2).2=(PA t.2).2:=by omega
 by_cases h4:t.2.kind=4
 ·have wB:s.2.kind=4:=e1.trans h4;unfold PA at hp⊢;rw [Pc wB,Pc h4] at hp⊢;obtain ⟨c,l1,_,l2⟩:=Tg e2 wB;obtain ⟨c',ck6,_,Hf⟩:=Tg e4 h4;have:=hk.place _ (Su l1) _ (Su ck6) (by have:=e3 h4;rw [l2,Hf] at this;exact this) (by rw [l2,Hf] at hp;exact hp);exact congrArg (λx=>(x,(0:Int))) this
 have wB:¬s.2.kind=4:=λx=>h4 (e1.symm.trans x);unfold PA at hn⊢;rw [P7 wB,P7 h4] at hn⊢;exact congrArg (λx=>(([]:Qg),x)) hn
theorem U' (hk:KnOk k fs)(h:together k af=true){c:Cs}(hc:c∈Pg k af):∃s∈af,c=PA s.2/\Pk c s=true:=by
 obtain ⟨s,hs,rfl⟩:=PI.1 (((TS k af (Uf hk h)).2 c).1 hc);refine ⟨s,hs,rfl,?_⟩;obtain ⟨_,e,_⟩:=SF h s hs s hs;unfold Pk PA;by_cases h4:s.2.kind=4
 ·obtain ⟨c',l1,_⟩:=Tg e h4;have am:s.2.name≠[]:=hk.name _ (Su l1);simp [h4,am]
 simp [h4]
theorem FO (hk:KnOk k fs)(h:together k af=true){c:Cs}(hc:c∈Pg k af):∀s∈af.filter (Pk c),(O' k c.1).2.2<=s.2.kids.length:=by
 intro s hs;rw [Sq] at hs;obtain ⟨t,ht,rfl,_⟩:=U' hk h hc;obtain ⟨e1,e2,_⟩:=SF h s hs.1 t ht;by_cases h4:t.2.kind=4
 ·have wB:=e1.trans h4;obtain ⟨c,l1,l2,l3⟩:=Tg e2 wB;have hi:=hs.2;unfold Pk PA at hi;rw [Pc h4] at hi;obtain ⟨_,ax7,_⟩:=SF h t ht t ht;obtain ⟨ct,m1,_⟩:=Tg ax7 h4;have am:t.2.name≠[]:=hk.name _ (Su m1);rw [P7 am] at hi;have hi:s.2.name=t.2.name:=by simpa using hi
  unfold PA;rw [Pc h4];show (O' k t.2.name).2.2<=_;rw [<-hi,l3,l2];exact P6 _
 unfold PA;rw [P7 h4];show (O' k []).2.2<=_;rw [Xr hk];exact TD _
end
section
variable {k:Kn}{c:PM}{fs:List Pu}{af a b:List Sp}{m n:Nat}
theorem vk1 (hk:KnOk k fs)(hs:a.Sublist b)(hb:together k b=true):together k a=true/\∀c∈Pg k a,c∈Pg k b:=by
 have ha:together k a=true:=qw0 λs jK t ht=>SF hb s (hs.subset jK) t (hs.subset ht);refine ⟨ha,λc hc=> ?_⟩;have h1:=((TS k a (Uf hk ha)).2 c).1 hc;exact ((TS k b (Uf hk hb)).2 c).2 ((hs.map _).subset h1)
theorem vm1 {a b:List (Nat×List Pt)}(h:a.Sublist b):(Pq n a).Sublist (Pq n b):=h.filterMap _
theorem UH {ai:List Nat}{aH:Nat}{lines:List (Nat×List Pt)}:c∈QA ai aH lines↔∃n,n<aH/\Pq n lines≠[]/\c=(ai,n,Pq n lines):=by
 unfold QA;rw [SE];constructor
 ·rintro ⟨n,h1,h2⟩;by_cases e:(Pq n lines).isEmpty=true
  ·rw [Pc e] at h2;cases h2
  rw [P7 e] at h2;exact ⟨n,T2.1 h1,by simpa using e,(Qs h2).symm⟩
 rintro ⟨n,h1,h2,rfl⟩;exact ⟨n,T2.2 h1,by rw [P7 (by simpa using h2)]⟩
theorem qy0 {k:Kn}{fs:List Pu}(hk:KnOk k fs):∀(d:Nat) (a b:List Sp),a.Sublist b->UA k d b=true->UA k d a=true
 | 0,_,_,_,_=>rfl
 | d+1,a,b,hs,h=>by
  unfold UA at h⊢;rw [Tj] at h⊢;obtain ⟨h1,h2⟩:=vk1 hk hs h.1;refine ⟨h1,?_⟩;rw [TK] at h⊢;intro c hc;have h3:=h.2 c (h2 c hc);rw [TK] at h3⊢;intro col bA;obtain ⟨n,e1,e2,rfl⟩:=UH.1 bA;have bN:(Pq n (RX (a.filter (Pk c)))).Sublist (Pq n (RX (b.filter (Pk c)))):=vm1 ((hs.filter _).map _);refine qy0 hk d _ _ bN (h3 ([],n,_) (UH.2 ⟨n,e1,λe=> ?_,rfl⟩));rw [e] at bN;exact e2 (List.sublist_nil.1 bN)
def Th (k:Kn)(af:List Sp):Prop:=∃d,(∀s∈af,s.2.1<=d)/\UA k d af=true
theorem Th.sub (hk:KnOk k fs)(h:Th k b)(hs:a.Sublist b):Th k a:=by
 obtain ⟨d,h1,h2⟩:=h;exact ⟨d,λs jK=>h1 s (hs.subset jK),qy0 hk d a b hs h2⟩
theorem Th.together (h:Th k af):together k af=true:=by
 obtain ⟨d,h1,h2⟩:=h;cases d with
 | zero=>
  cases af with
  | nil=>rfl
  | cons s r=>have:=h1 s (by simp);have:=s.2.depth_pos;omega
 | succ d=>
  unfold UA at h2;rw [Tj] at h2;exact h2.1
theorem OW {s:Sp}(h:s∈Pq n (RX af)):∃t∈af,t.1=s.1/\s.2∈t.2.kids/\Pm s.2=false:=by
 unfold Pq RX at h;rw [SE] at h;obtain ⟨l,h1,h2⟩:=h;obtain ⟨t,ht,rfl⟩:=PI.1 h1;dsimp only at h2;cases hg:t.2.kids[n]? with
 | none=>rw [hg] at h2;cases h2
 | some p=>
  rw [hg] at h2;dsimp only at h2;by_cases hw:Pm p=true
  ·rw [Pc hw] at h2;cases h2
  rw [P7 hw] at h2;have e:=Qs h2;subst e;exact ⟨t,ht,rfl,Tf hg,by simpa using hw⟩
theorem Th.within (h:Th k af){c:Cs}(hc:c∈Pg k af){path:List Nat}{col:PM}(bA:col∈YtpdmkhnonbbhnaaGreat.within k (af.filter (Pk c)) c.1 path):Th k col.2.2:=by
 obtain ⟨d,h1,h2⟩:=h;obtain ⟨n,e1,e2,rfl⟩:=UH.1 bA;cases d with
 | zero=>
  cases af with
  | nil=>simp [Pg] at hc
  | cons s r=>have:=h1 s (by simp);have:=s.2.depth_pos;omega
 | succ d=>
  unfold UA at h2;rw [Tj,TK] at h2;have h3:=h2.2 c hc;rw [TK] at h3;refine ⟨d,λs hs=> ?_,h3 ([],n,_) (UH.2 ⟨n,e1,e2,rfl⟩)⟩;obtain ⟨t,ht,_,hk,_⟩:=OW hs;have:=Pt.kids_lt hk;have:=h1 t (Sq.1 ht).1;omega
theorem EJ {n:Nat}:∀(af:List Sp),((Pq n (RX af)).map (·.1)).Sublist (af.map (·.1))
 | []=>by simp [Pq,RX]
 | s::r=>by
  have ih:=EJ (n:=n) r;unfold Pq RX at ih⊢;rw [Re,Ui,Re];dsimp only at ih⊢;cases hg:s.2.kids[n]? with
  | none=>exact ih.cons _
  | some p=>
   dsimp only;by_cases hw:Pm p=true
   ·rw [Pc hw];exact ih.cons _
   rw [P7 hw];exact ih.cons_cons _
structure Good (k:Kn)(m:Nat)(c:PM):Prop where
 rise:(c.2.2.map (·.1)).Pairwise (· < ·)
 rows:∀s∈c.2.2,s.1<200
 right:Th k c.2.2
 path:c.1.length<=m
theorem Fi:∀(l:List Nat) (lo n:Nat),l.Pairwise (· < ·)->(∀x∈l,lo<=x/\x<n)->l.length<=n-lo
 | [],_,_,_,_=>by simp
 | a::r,lo,n,h,hb=>by
  rw [U5] at h;have h1:=Fi r (a+1) n h.2 (λx hx=>⟨h.1 x hx,(hb x (RI _ hx)).2⟩);have h2:=hb a (by simp);rw [Rj];omega
theorem Zz {l:List Nat}(h:l.Pairwise (· < ·))(n:Nat)(hb:∀x∈l,x<n):l.length<=n:=Fi l 0 n h λx hx=>⟨TD _,hb x hx⟩
theorem Good.len (h:Good k m c):c.2.2.length<=200:=by
 have:=Zz h.rise 200 (λx hx=>by obtain ⟨s,hs,rfl⟩:=PI.1 hx;exact h.rows s hs);simpa using this
theorem Good.up {m':Nat}(h:Good k m c)(hm:m<=m'):Good k m' c:=⟨h.rise,h.rows,h.right,PZ h.path hm⟩
theorem Good.within (hk:KnOk k fs)(h:Good k m c)(rows:List Nat){x:Cs}(hx:x∈Pg k (PK c.2.2 rows)){col:PM}(bA:col∈YtpdmkhnonbbhnaaGreat.within k ((PK c.2.2 rows).filter (Pk x)) x.1 (c.1++[c.2.1])):Good k (m+1) col:=by
 have bN:(PK c.2.2 rows).Sublist c.2.2:=TW;have hr:=(h.right.sub hk bN).within hx bA;obtain ⟨n,e1,e2,rfl⟩:=UH.1 bA;have hrows:=EJ (n:=n) ((PK c.2.2 rows).filter (Pk x));have bc5:=hrows.trans ((TW.trans bN).map (·.1));refine ⟨h.rise.sublist bc5,λs hs=> ?_,hr,?_⟩
 ·obtain ⟨t,ht,e,_⟩:=OW hs;rw [<-e];exact h.rows t (bN.subset (Sq.1 ht).1)
 have:=h.path;simp;omega
end
section
variable {w:World}{S:Nat->Prop}
theorem XD (cb Rb g o n cap r:Nat)(c:PM)(hc:QR w S cb c)(hb:w.cell? ⟨Rb,0,none⟩=some (.slice (some ⟨g,o,none⟩) n cap))(hr:w.cell? ⟨g,o,none⟩=some (.int .i64 r))(hn:0<n)(hlt:r<200):
  Calls Tryz.prog 54 #[.pointer (some ⟨cb,0,none⟩),.pointer (some ⟨Rb,0,none⟩)] w λe w'=>e= .returned (.bool (Rx r c))/\∃q,w'=w.drewN q:=by
 obtain ⟨_,_,_,_,hh⟩:=hc;have bd7:=hh r hlt;clear hh;have n1:(0:Int)<(n:Int):=by omega
 have r1:(0:Int)<=(r:Int):=by omega
 have r2:(r:Int)<200:=by omega
 generalize Rx r c=R at bd7⊢;go_enter Tryz.func54,Tryz.ntmps54;go_wp2
 go_quiet (fail)
 all_goals
  go_wp2;go_ret;exact ⟨rfl,_,rfl⟩
def WK (o:Option Nat):Int:=match o with
 | some i=>i
 | none=>-1
theorem vn1 (cv:Value)(cols:List PM)(Rb g o n cap r:Nat)(hc:Qw w S cv cols)(hb:w.cell? ⟨Rb,0,none⟩=some (.slice (some ⟨g,o,none⟩) n cap))(hr:w.cell? ⟨g,o,none⟩=some (.int .i64 r))(hn:0<n)(hlt:r<200)(hl:cols.length<=100000):
  Calls Tryz.prog 53 #[cv,.func (.func 54) #[] #[.pointer (some ⟨Rb,0,none⟩)]] w λe w'=>e= .returned (.int .i64 (WK (cols.findIdx? (Rx r))))/\∃q,w'=w.drewN q:=by
 obtain ⟨ad,cc,rfl,bA⟩:=Pd.open hc;have HC:=P4 bA;have HF:Hid (∀i (h:i<cols.length),(∀j,j<i->∀(hj:j<cols.length),Rx r cols[j]=false)->Rx r cols[i]=true->cols.findIdx? (Rx r)=some i):=λi h h1 h2=>by
  rw [SP];exact ⟨h,h2,λj hj=>by simpa using h1 j hj (by omega)⟩
 have HN:Hid ((∀j (hj:j<cols.length),Rx r cols[j]=false)->cols.findIdx? (Rx r)=none):=λh=>by
  rw [YY];intro x hx;obtain ⟨j,hj,rfl⟩:=RO hx;exact h j hj
 have HA:=Qh hb hr;clear hc bA hb hr;go_enter Tryz.func53,Tryz.ntmps53;go_wp2
 go_loopw [8] (λiv wr=>∃(i q:Nat),i<=cols.length/\iv= .int .i64 i/\wr=w.drewN q/\Hid (∀j,j<i->∀(hj:j<cols.length),Rx r cols[j]=false)) (λiv _=>cols.length-(intOf iv).toNat)
 case atStart=>exact ⟨0,0,by omega,by go_num,rfl,λj h=>by omega⟩
 obtain ⟨i,q,hi,rfl,rfl,HJ⟩:=hrel;by_cases ag:i<cols.length
 ·obtain ⟨gg,oo,rfl,hcc,hj⟩:=HC.out (λe=>by rw [e] at ag;simp at ag);obtain ⟨_,cb,p,bA⟩:=hj i ag;rw [R4] at p;have p:(w.drewN q).cell? ⟨gg,oo+i,none⟩=some (.pointer (some ⟨cb,0,none⟩)):=p;have CH:=XD (w:=w.drewN q) cb Rb g o n cap r cols[i] (bA.on λ_ _=>rfl) HA.1 HA.2 hn hlt;have i1:(0:Int)<=(i:Int):=by omega
  have i2:(i:Int)<(cols.length:Int):=by omega
  have HT:=P4 (HF.out i ag HJ.out);have HE:Hid (Rx r cols[i]=false->∀j,j<i+1->∀(hj:j<cols.length),Rx r cols[j]=false):=λh j hj cO=>by
   by_cases e:j=i
   ·subst e;exact h
   exact HJ.out j (by omega) cO
  generalize Rx r cols[i]=R at *
  clear hj bA;cases R with
  | true=>
   have en:Hid (cols.findIdx? (Rx r)=some i):=HT.out rfl
   go_wp2_with (go_at_call 54;(with_reducible refine Pe CH ?_);rintro e' w1 ⟨rfl,q1,rfl⟩)
   go_ret;exact ⟨by rw [en.out];rfl,q+q1,by simp [World.drewN]⟩
  | false=>
   have iS:Hid (∀j,j<i+1->∀(hj:j<cols.length),Rx r cols[j]=false):=HE.out rfl
   go_wp2_with (go_at_call 54;(with_reducible refine Pe CH ?_);rintro e' w1 ⟨rfl,q1,rfl⟩)
   go_roundw
   case rel=>exact ⟨i+1,q+q1,ag,by go_num,by simp [World.drewN],iS.out⟩
   case measure=>simp [intOf];omega
 have en:Hid (cols.findIdx? (Rx r)=none):=HN.out (λj hj=>HJ.out j (by omega) hj);go_wp2;go_ret;exact ⟨by rw [en.out];rfl,q,rfl⟩
end
section
variable {w w':World}{k e n cap:Nat}{ad:Option Addr}{bs:List Nat}
def PL (w:World)(S:Nat->Prop):(f:Nat)->Value->Tr f->Prop
 | 0,x,_=>x= .agg #[.int .i64 0,.int .i64 0,.slice none 0 0,.slice none 0 0,.slice none 0 0]
 | f+1,x,t=>∃pa pc ca cc ea ec,x= .agg #[.int .i64 t.1.1,.int .i64 t.1.2.1,.slice pa t.1.2.2.length pc,.slice ca t.2.1.length cc,.slice ea t.2.2.length ec]/\Pv w S (.slice pa t.1.2.2.length pc) t.1.2.2/\
  Pd 7 (λg o (c:Cs×Tr f)=>S g/\w.cell? ⟨g,o,none⟩=some (.string ⟨c.1.1.toArray⟩)/\w.cell? ⟨g,o+1,none⟩=some (.int .i64 c.1.2)/\c.1.1.length<140737488355328/\∃v0 v1 v2 v3 v4,w.cell? ⟨g,o+2,none⟩=some v0/\w.cell? ⟨g,o+3,none⟩=some v1/\w.cell? ⟨g,o+4,none⟩=some v2/\w.cell? ⟨g,o+5,none⟩=some v3/\w.cell? ⟨g,o+6,none⟩=some v4/\PL w S f (.agg #[v0,v1,v2,v3,v4]) c.2) (.slice ca t.2.1.length cc) t.2.1/\
  Pd 5 (λg o (e:Tr f)=>S g/\∃v0 v1 v2 v3 v4,w.cell? ⟨g,o,none⟩=some v0/\w.cell? ⟨g,o+1,none⟩=some v1/\w.cell? ⟨g,o+2,none⟩=some v2/\w.cell? ⟨g,o+3,none⟩=some v3/\w.cell? ⟨g,o+4,none⟩=some v4/\PL w S f (.agg #[v0,v1,v2,v3,v4]) e) (.slice ea t.2.2.length ec) t.2.2
theorem PL.below {w w':World}{S S':Nat->Prop}(hb:OZ S w w')(hS:∀b,S b->S' b):∀(f:Nat) (x:Value) (t:Tr f),PL w S f x t->PL w' S' f x t
 | 0,_,_,h=>h
 | f+1,_,_,⟨pa,pc,ca,cc,ea,ec,h1,h2,h3,h4⟩=>by
  refine ⟨pa,pc,ca,cc,ea,ec,h1,(h2.on hb).up hS,h3.mono λg o c _=> ?_,h4.mono λg o e _=> ?_⟩
  ·rintro ⟨k0,k1,k2,k3,v0,v1,v2,v3,v4,c0,c1,c2,c3,c4,ht⟩;exact ⟨hS _ k0,(hb.cell (p:=⟨g,o,none⟩) k0).trans k1,(hb.cell (p:=⟨g,o+1,none⟩) k0).trans k2,k3,v0,v1,v2,v3,v4,(hb.cell (p:=⟨g,o+2,none⟩) k0).trans c0,(hb.cell (p:=⟨g,o+3,none⟩) k0).trans c1,(hb.cell (p:=⟨g,o+4,none⟩) k0).trans c2,(hb.cell (p:=⟨g,o+5,none⟩) k0).trans c3,(hb.cell (p:=⟨g,o+6,none⟩) k0).trans c4,PL.below hb hS f _ _ ht⟩
  rintro ⟨k0,v0,v1,v2,v3,v4,c0,c1,c2,c3,c4,ht⟩;exact ⟨hS _ k0,v0,v1,v2,v3,v4,(hb.cell (p:=⟨g,o,none⟩) k0).trans c0,(hb.cell (p:=⟨g,o+1,none⟩) k0).trans c1,(hb.cell (p:=⟨g,o+2,none⟩) k0).trans c2,(hb.cell (p:=⟨g,o+3,none⟩) k0).trans c3,(hb.cell (p:=⟨g,o+4,none⟩) k0).trans c4,PL.below hb hS f _ _ ht⟩
theorem PL.parts {w:World}{S:Nat->Prop}:∀{f:Nat}{x:Value}{t:Tr f},PL w S f x t->∃a b pa pl pc ca cl cc ea el ec,x= .agg #[.int .i64 a,.int .i64 b,.slice pa pl pc,.slice ca cl cc,.slice ea el ec]
 | 0,_,_,h=>⟨0,0,none,0,0,none,0,0,none,0,0,h⟩
 | _+1,_,_,⟨pa,pc,ca,cc,ea,ec,h1,_⟩=>⟨_,_,pa,_,pc,ca,_,cc,ea,_,ec,h1⟩
theorem Y3 (w:World)(S:Nat->Prop):∀f,PL w S f (.agg #[.int .i64 0,.int .i64 0,.slice none 0 0,.slice none 0 0,.slice none 0 0]) (Qz f)
 | 0=>rfl
 | _+1=>⟨none,0,none,0,none,0,rfl,.inl ⟨rfl,_,_,rfl⟩,.inl ⟨rfl,_,_,rfl⟩,.inl ⟨rfl,_,_,rfl⟩⟩
def QG (w:World)(k e:Nat)(ad:Option Addr)(n cap:Nat)(bs:List Nat):Prop:=
 (ad=none/\n=0/\cap=0/\bs=[])\/∃g cur,ad=some ⟨g,0,none⟩/\bs=[g]/\w.heap[g]? =some (.cells cur e (0,0))/\cur.size=cap*k/\n<=cap/\cap<=maxLen
theorem QG.on (h:QG w k e ad n cap bs)(hk:∀b∈bs,w'.heap[b]? =w.heap[b]?):QG w' k e ad n cap bs:=by
 rcases h with h | ⟨g,cur,h1,h2,h3,h4⟩
 ·exact .inl h
 exact .inr ⟨g,cur,h1,h2,(hk g (by rw [h2];simp)).trans h3,h4⟩
theorem QG.at (h:QG w k e ad n cap bs){g:Nat}(hg:ad=some ⟨g,0,none⟩):bs=[g]:=by
 rcases h with ⟨h,_⟩ | ⟨g',cur,h1,h2,_⟩
 ·rw [h] at hg;cases hg
 rw [h1] at hg;injection hg with hg;injection hg with hg;rw [h2,hg]
theorem Qm {g:Nat}(h:w'.heap[g]? =w.heap[g]?)(o:Nat):w'.cell? ⟨g,o,none⟩=w.cell? ⟨g,o,none⟩:=by
 unfold World.cell?;rw [h]
def T1 (w:World):Nat->Value->List Nat->Prop
 | 0,x,bs=>x= .agg #[.int .i64 0,.int .i64 0,.slice none 0 0,.slice none 0 0,.slice none 0 0]/\bs=[]
 | f+1,x,bs=>∃(a b:Int) (pa:Option Addr) (pl pc:Nat) (ca:Option Addr) (cl cc:Nat) (ea:Option Addr) (el ec:Nat) (bp bc be:List Nat) (aC ess:List (List Nat)),x= .agg #[.int .i64 a,.int .i64 b,.slice pa pl pc,.slice ca cl cc,.slice ea el ec]/\bs=bp++(bc++(be++(aC.flatten++ess.flatten)))/\QG w 1 3 pa pl pc bp/\QG w 7 53 ca cl cc bc/\QG w 5 30 ea el ec be/\aC.length=cl/\ess.length=el/\
  (∀i (h:i<aC.length),∃g v0 v1 v2 v3 v4,ca=some ⟨g,0,none⟩/\w.cell? ⟨g,i*7+2,none⟩=some v0/\w.cell? ⟨g,i*7+3,none⟩=some v1/\w.cell? ⟨g,i*7+4,none⟩=some v2/\w.cell? ⟨g,i*7+5,none⟩=some v3/\w.cell? ⟨g,i*7+6,none⟩=some v4/\T1 w f (.agg #[v0,v1,v2,v3,v4]) aC[i])/\
  ∀i (h:i<ess.length),∃g v0 v1 v2 v3 v4,ea=some ⟨g,0,none⟩/\w.cell? ⟨g,i*5,none⟩=some v0/\w.cell? ⟨g,i*5+1,none⟩=some v1/\w.cell? ⟨g,i*5+2,none⟩=some v2/\w.cell? ⟨g,i*5+3,none⟩=some v3/\w.cell? ⟨g,i*5+4,none⟩=some v4/\T1 w f (.agg #[v0,v1,v2,v3,v4]) ess[i]
theorem T1.on {w w':World}:∀(f:Nat) (x:Value) (bs:List Nat),T1 w f x bs->(∀b∈bs,w'.heap[b]? =w.heap[b]?)->T1 w' f x bs
 | 0,_,_,h,_=>h
 | f+1,x,bs,⟨a,b,pa,pl,pc,ca,cl,cc,ea,el,ec,bp,bc,be,aC,ess,h1,h2,h3,h4,h5,h6,h7,h8,h9⟩,hk=>by
  have k1:∀b∈bp,w'.heap[b]? =w.heap[b]? :=λb hb=>hk b (by rw [h2];simp [hb]);have k2:∀b∈bc,w'.heap[b]? =w.heap[b]? :=λb hb=>hk b (by rw [h2];simp [hb]);have k3:∀b∈be,w'.heap[b]? =w.heap[b]? :=λb hb=>hk b (by rw [h2];simp [hb]);refine ⟨a,b,pa,pl,pc,ca,cl,cc,ea,el,ec,bp,bc,be,aC,ess,h1,h2,h3.on k1,h4.on k2,h5.on k3,h6,h7,λi hi=> ?_,λi hi=> ?_⟩
  ·obtain ⟨g,v0,v1,v2,v3,v4,e,c0,c1,c2,c3,c4,ht⟩:=h8 i hi;have hg:=k2 g (by rw [h4.at e];simp);refine ⟨g,v0,v1,v2,v3,v4,e,(Qm hg _).trans c0,(Qm hg _).trans c1,(Qm hg _).trans c2,(Qm hg _).trans c3,(Qm hg _).trans c4,T1.on f _ _ ht λb hb=>hk b ?_⟩;rw [h2];have:b∈aC.flatten:=RF.2 ⟨_,Px hi,hb⟩;simp only [PE];exact .inr (.inr (.inr (.inl this)))
  obtain ⟨g,v0,v1,v2,v3,v4,e,c0,c1,c2,c3,c4,ht⟩:=h9 i hi;have hg:=k3 g (by rw [h5.at e];simp);refine ⟨g,v0,v1,v2,v3,v4,e,(Qm hg _).trans c0,(Qm hg _).trans c1,(Qm hg _).trans c2,(Qm hg _).trans c3,(Qm hg _).trans c4,T1.on f _ _ ht λb hb=>hk b ?_⟩;rw [h2];have:b∈ess.flatten:=RF.2 ⟨_,Px hi,hb⟩;simp only [PE];exact .inr (.inr (.inr (.inr this)))
def TN (w:World)(lo hi f:Nat)(x:Value):Prop:=∃bs,T1 w f x bs/\bs.Nodup/\∀b∈bs,lo<=b/\b<hi
theorem TN.on {lo hi np aB f:Nat}{x:Value}(h:TN w lo hi f x)(hk:∀y,lo<=y->y<hi->w'.heap[y]? =w.heap[y]?)(hl:np<=lo)(hh:hi<=aB):TN w' np aB f x:=by
 obtain ⟨bs,h1,h2,h3⟩:=h;exact ⟨bs,T1.on f x bs h1 λb hb=>hk b (h3 b hb).1 (h3 b hb).2,h2,λb hb=>⟨by have:=(h3 b hb).1;omega,by have:=(h3 b hb).2;omega⟩⟩
theorem OE (w:World)(lo hi f:Nat)(a b:Int):TN w lo hi (f+1) (.agg #[.int .i64 a,.int .i64 b,.slice none 0 0,.slice none 0 0,.slice none 0 0]):=
 ⟨[],⟨a,b,none,0,0,none,0,0,none,0,0,[],[],[],[],[],rfl,rfl,.inl ⟨rfl,rfl,rfl,rfl⟩,.inl ⟨rfl,rfl,rfl,rfl⟩,.inl ⟨rfl,rfl,rfl,rfl⟩,rfl,rfl,λi h=>by simp at h,λi h=>by simp at h⟩,Vr,λb hb=>by simp at hb⟩
theorem Xd (w:World)(lo hi:Nat):∀f,TN w lo hi f (.agg #[.int .i64 0,.int .i64 0,.slice none 0 0,.slice none 0 0,.slice none 0 0])
 | 0=>⟨[],⟨rfl,rfl⟩,Vr,λb hb=>by simp at hb⟩
 | f+1=>OE w lo hi f 0 0
structure TreeIn (k:Kn)(fs:List Pu)(fa:Option Addr)(fc b m:Nat)(f n:Nat)(cols:List PM)(rows:List Nat)(cv rv:Value)(S:Nat->Prop)(w:World):Prop where
 fuel:5001<=n+f/\f<=5001
 cnt:n<=1010202
 blk:w.heap[m]? =some (.cells #[.slice fa fs.length fc,.map (some b),.int .i64 n] 76 (0,0))
 set:∀x,S x->x<w.heap.size/\x≠m
 map:PP w b k
 mapne:b≠m
 fams:PH w S (.slice fa fs.length fc) fs
 hcols:Qw w S cv cols
 hrows:Pv w S rv rows
 good:∀c∈cols,Good k (5002-f) c
 num:cols.length<=16+8*(5001-f)
 rise:rows.Pairwise (· < ·)
 low:∀r∈rows,r<200
def Tl (k:Kn)(fs:List Pu)(fa:Option Addr)(fc b m:Nat)(f:Nat):Prop:=∀(n:Nat) (cols:List PM) (rows:List Nat) (cv rv:Value) (S:Nat->Prop) (w:World),TreeIn k fs fa fc b m f n cols rows cv rv S w->
 Calls Tryz.prog 29 #[.pointer (some ⟨m,0,none⟩),cv,rv] w λr w'=>Kx m w w'/\w'.heap[m]? =some (.cells #[.slice fa fs.length fc,.map (some b),.int .i64 (Ps k fs f n cols rows).2] 76 (0,0))/\((5000<=n->(Ps k fs f n cols rows).2=n+1)/\(n<5000->(Ps k fs f n cols rows).2<=5001+201*f))/\
  ∃x,r= .returned x/\PL w' (λb=>w.heap.size<=b/\b<w'.heap.size) f x (Ps k fs f n cols rows).1/\TN w' w.heap.size w'.heap.size f x
theorem ra0 {α β:Type}(step:α->Nat->β×Nat):∀(l:List α) (x:α) (n:Nat),P9 step (l++[x]) n=((P9 step l n).1++[(step x (P9 step l n).2).1],(step x (P9 step l n).2).2)
 | [],_,_=>rfl
 | a::r,x,n=>by
  rw [TY];unfold P9;rw [ra0 step r x]
  rfl
theorem Y7 {α β:Type}(step:α->Nat->β×Nat):∀(l:List α) (n:Nat),(P9 step l n).1.length=l.length
 | [],_=>rfl
 | a::r,n=>by
  unfold P9;rw [Rj,Rj,Y7 step r]
def PG (k:Kn)(fs:List Pu)(f:Nat)(cols:List PM)(rows:List Nat)(ax:Nat)(af:List Sp)(path:List Nat)(x:Cs)(n:Nat):Tr f×Nat:=
 Ps k fs f n (cols.take ax++within k (af.filter (Pk x)) x.1 path++cols.drop (ax+1)) (QE rows (af.filter λs=> !Pk x s))
def T9 (k:Kn)(fs:List Pu)(f n:Nat)(cols:List PM)(rows:List Nat)(ax:Nat)(c:PM):Tr (f+1)×Nat:=
 let af:=PK c.2.2 rows
 let path:=c.1++[c.2.1]
 let cs:=Pg k af
 let a:=P9 (PG k fs f cols rows ax af path) cs n
 if Ss k fs cs then (((3,0,path),cs.zip a.1,[]),a.2)
 else
  let e:=Ps k fs f a.2 (cols.take ax++cols.drop (ax+1)) (QE rows af)
  (((3,0,path),cs.zip a.1,[e.1]),e.2)
theorem Vz (k:Kn)(fs:List Pu)(f n:Nat)(cols:List PM)(r:Nat)(rows:List Nat)(ax:Nat)(h:ax<cols.length)(hn:n<5000)(hi:cols.findIdx? (Rx r)=some ax):Ps k fs (f+1) n cols (r::rows)=T9 k fs f (n+1) cols (r::rows) ax cols[ax]:=by
 unfold Ps;rw [P7 (by omega)];simp only [hi,PR h]
 rfl
theorem Vq (k:Kn)(fs:List Pu)(f n:Nat)(cols:List PM)(rows:List Nat)(hn:5000<=n):Ps k fs f n cols rows=(Qz f,n+1):=by
 cases f with
 | zero=>rfl
 | succ f=>
  unfold Ps;rw [Pc hn]
theorem VW (k:Kn)(fs:List Pu)(f n:Nat)(cols:List PM)(hn:n<5000):Ps k fs (f+1) n cols []=(((1,0,[]),[],[]),n+1):=by
 unfold Ps;rw [P7 (by omega)]
 rfl
theorem V9 (k:Kn)(fs:List Pu)(f n:Nat)(cols:List PM)(r:Nat)(rows:List Nat)(hn:n<5000)(hi:cols.findIdx? (Rx r)=none):Ps k fs (f+1) n cols (r::rows)=(((2,r,[]),[],[]),n+1):=by
 unfold Ps;rw [P7 (by omega)];simp only [hi]
 rfl
end
section
variable {f:Nat}
structure Bw {f:Nat}(step:Cs->Nat->Tr f×Nat)(cs:List Cs)(n m:Nat)(fv mv:Value)(W4:World)(Cb:Nat)(i:Nat)(cur:Array Value)(wr:World):Prop where
 os:wr.os=W4.os
 tape:wr.tape=W4.tape
 output:wr.output=W4.output
 size:W4.heap.size<=wr.heap.size
 keep:∀x,x<W4.heap.size->x≠m->x≠Cb->wr.heap[x]? =W4.heap[x]?
 mblk:wr.heap[m]? =some (.cells #[fv,mv,.int .i64 (P9 step (cs.take i) n).2] 76 (0,0))
 cblk:wr.heap[Cb]? =some (.cells cur 53 (0,0))
 names:∀j (h:j<cs.length),cur[j*7]? =some (.string ⟨cs[j].1.toArray⟩)/\cur[j*7+1]? =some (.int .i64 cs[j].2)
 zero:∀j (_:j<cs.length),i<=j->cur[j*7+2]? =some (.int .i64 0)/\cur[j*7+3]? =some (.int .i64 0)/\cur[j*7+4]? =some (.slice none 0 0)/\cur[j*7+5]? =some (.slice none 0 0)/\cur[j*7+6]? =some (.slice none 0 0)
 done:∀j (h:j<(P9 step (cs.take i) n).1.length),∃v0 v1 v2 v3 v4,cur[j*7+2]? =some v0/\cur[j*7+3]? =some v1/\cur[j*7+4]? =some v2/\cur[j*7+5]? =some v3/\cur[j*7+6]? =some v4/\PL wr (λx=>W4.heap.size<=x/\x<wr.heap.size) f (.agg #[v0,v1,v2,v3,v4]) (P9 step (cs.take i) n).1[j]
 cnt:n<=(P9 step (cs.take i) n).2/\(P9 step (cs.take i) n).2<=5001+201*f+i
 own:∃aC:List (List Nat),aC.length=i/\aC.flatten.Nodup/\(∀b∈aC.flatten,W4.heap.size<=b/\b<wr.heap.size)/\∀j (h:j<aC.length),∃v0 v1 v2 v3 v4,cur[j*7+2]? =some v0/\cur[j*7+3]? =some v1/\cur[j*7+4]? =some v2/\cur[j*7+5]? =some v3/\cur[j*7+6]? =some v4/\T1 wr f (.agg #[v0,v1,v2,v3,v4]) aC[j]
theorem Bw.start (step:Cs->Nat->Tr f×Nat)(cs:List Cs)(n m:Nat)(fv mv:Value)(W4:World)(Cb:Nat)(cur:Array Value)(h1:W4.heap[m]? =some (.cells #[fv,mv,.int .i64 n] 76 (0,0)))(h2:W4.heap[Cb]? =some (.cells cur 53 (0,0)))(h3:∀j (h:j<cs.length) i,i<7->cur[j*7+i]? =(ST cs[j])[i]?)(hn:n<=5000):Bw step cs n m fv mv W4 Cb 0 cur W4:=
 ⟨rfl,rfl,rfl,P6 _,λ_ _ _ _=>rfl,h1,h2,λj h=>⟨h3 j h 0 (by omega),h3 j h 1 (by omega)⟩,λj h _=>⟨h3 j h 2 (by omega),h3 j h 3 (by omega),h3 j h 4 (by omega),h3 j h 5 (by omega),h3 j h 6 (by omega)⟩,λj h=>by simp [P9] at h,by simp [P9];omega,[],rfl,by simp,λb hb=>by simp at hb,λj h=>by simp at h⟩
theorem Zl {α:Type}(l:List α)(i:Nat)(h:i<l.length):l.take (i+1)=l.take i++[l[i]]:=by
 rw [S1,PR h]
 rfl
theorem Bw.step {step:Cs->Nat->Tr f×Nat}{cs:List Cs}{n m:Nat}{fv mv:Value}{W4:World}{Cb i:Nat}{cur:Array Value}{wr wc w':World}(h:Bw step cs n m fv mv W4 Cb i cur wr)(hi:i<cs.length)(hm:m<W4.heap.size)(Hg:Cb<W4.heap.size)(BK:m≠Cb)
  (hb:Below wr.heap.size wr wc) (hk:Kx m wc w') (aE:w'.heap[m]? =some (.cells #[fv,mv,.int .i64 (step cs[i] (P9 step (cs.take i) n).2).2] 76 (0,0)))
  (kB:(5000<=(P9 step (cs.take i) n).2->(step cs[i] (P9 step (cs.take i) n).2).2=(P9 step (cs.take i) n).2+1)/\((P9 step (cs.take i) n).2<5000->(step cs[i] (P9 step (cs.take i) n).2).2<=5001+201*f)) (mI:(P9 step (cs.take i) n).2<=(step cs[i] (P9 step (cs.take i) n).2).2)
  {v0 v1 v2 v3 v4:Value}(ht:PL w' (λx=>wc.heap.size<=x/\x<w'.heap.size) f (.agg #[v0,v1,v2,v3,v4]) (step cs[i] (P9 step (cs.take i) n).2).1) (ho:TN w' wc.heap.size w'.heap.size f (.agg #[v0,v1,v2,v3,v4])):
  w'.heap[Cb]? =some (.cells cur 53 (0,0))/\∃U,U=((((w'.setCell ⟨Cb,i*7+2,none⟩ v0).setCell ⟨Cb,i*7+3,none⟩ v1).setCell ⟨Cb,i*7+4,none⟩ v2).setCell ⟨Cb,i*7+5,none⟩ v3).setCell ⟨Cb,i*7+6,none⟩ v4/\∃cur',cur'.size=cur.size/\Bw step cs n m fv mv W4 Cb (i+1) cur' U:=by
 have qq:=hb.size;have cu:=hb.block;have yO:=hk.size;have hsz:=h.size;have cP:w'.heap[Cb]? =some (.cells cur 53 (0,0)):=((hk.block Cb (by omega) (λe=>BK e.symm)).trans (hb.block Cb (by omega))).trans h.cblk;refine ⟨cP,_,rfl,((((cur.setIfInBounds (i*7+2) v0).setIfInBounds (i*7+3) v1).setIfInBounds (i*7+4) v2).setIfInBounds (i*7+5) v3).setIfInBounds (i*7+6) v4,by simp,?_⟩;have hU:=Q5 (i:=i*7+6) (v:=v4) (Q5 (i:=i*7+5) (v:=v3) (Q5 (i:=i*7+4) (v:=v2) (Q5 (i:=i*7+3) (v:=v1) (Q5 (i:=i*7+2) (v:=v0) cP))));have fN:∀x,x≠Cb->(((((w'.setCell ⟨Cb,i*7+2,none⟩ v0).setCell ⟨Cb,i*7+3,none⟩ v1).setCell ⟨Cb,i*7+4,none⟩ v2).setCell ⟨Cb,i*7+5,none⟩ v3).setCell ⟨Cb,i*7+6,none⟩ v4).heap[x]? =w'.heap[x]? :=λx hx=>by
  rw [PX _ _ _ _ hx,PX _ _ _ _ hx,PX _ _ _ _ hx,PX _ _ _ _ hx,PX _ _ _ _ hx]
 have bj:(((((w'.setCell ⟨Cb,i*7+2,none⟩ v0).setCell ⟨Cb,i*7+3,none⟩ v1).setCell ⟨Cb,i*7+4,none⟩ v2).setCell ⟨Cb,i*7+5,none⟩ v3).setCell ⟨Cb,i*7+6,none⟩ v4).heap.size=w'.heap.size:=by simp [World.setCell]
 have aT:(i*7+6)<cur.size:=by
  obtain ⟨_,_,_,_,z⟩:=h.zero i hi (P6 _);exact (Oa.1 z).1
 have bS:∀t,(∀q,q<5->t≠i*7+2+q)->(((((cur.setIfInBounds (i*7+2) v0).setIfInBounds (i*7+3) v1).setIfInBounds (i*7+4) v2).setIfInBounds (i*7+5) v3).setIfInBounds (i*7+6) v4)[t]? =cur[t]? :=λt ht=>by
  have:=ht 0 (by omega);have:=ht 1 (by omega);have:=ht 2 (by omega);have:=ht 3 (by omega);have:=ht 4 (by omega);rw [Q9,P7 (by omega),Q9,P7 (by omega),Q9,P7 (by omega),Q9,P7 (by omega),Q9,P7 (by omega)]
 have hE:P9 step (cs.take (i+1)) n=((P9 step (cs.take i) n).1++[(step cs[i] (P9 step (cs.take i) n).2).1],(step cs[i] (P9 step (cs.take i) n).2).2):=by rw [Zl cs i hi,ra0]
 have aA:(P9 step (cs.take i) n).1.length=i:=by rw [Y7,RW];omega
 refine ⟨hk.os.trans (hb.os.trans h.os),hk.tape.trans (hb.tape.trans h.tape),hk.output.trans (hb.output.trans h.output),by rw [bj];omega,λx hx iX Hh=> ?_,?_,hU,λj hj=> ?_,λj hj mF=> ?_,λj hj=> ?_,?_,?_⟩
 ·rw [fN x Hh,hk.block x (by omega) iX,hb.block x (by omega)];exact h.keep x hx iX Hh
 ·rw [fN m BK,hE];exact aE
 ·rw [bS _ (λq hq=>by omega),bS _ (λq hq=>by omega)];exact h.names j hj
 ·rw [bS _ (λq hq=>by omega),bS _ (λq hq=>by omega),bS _ (λq hq=>by omega),bS _ (λq hq=>by omega),bS _ (λq hq=>by omega)];exact h.zero j hj (by omega)
 ·have Hi:OZ (λx=>W4.heap.size<=x/\x<w'.heap.size) w' (((((w'.setCell ⟨Cb,i*7+2,none⟩ v0).setCell ⟨Cb,i*7+3,none⟩ v1).setCell ⟨Cb,i*7+4,none⟩ v2).setCell ⟨Cb,i*7+5,none⟩ v3).setCell ⟨Cb,i*7+6,none⟩ v4):=λx hx=>fN x (by omega);rcases Sk j i with bZ | bZ
  ·obtain ⟨u0,u1,u2,u3,u4,e0,e1,e2,e3,e4,et⟩:=h.done j (by omega);refine ⟨u0,u1,u2,u3,u4,?_,?_,?_,?_,?_,?_⟩
   ·rw [bS _ (λq hq=>by omega)];exact e0
   ·rw [bS _ (λq hq=>by omega)];exact e1
   ·rw [bS _ (λq hq=>by omega)];exact e2
   ·rw [bS _ (λq hq=>by omega)];exact e3
   ·rw [bS _ (λq hq=>by omega)];exact e4
   have kT:OZ (λx=>W4.heap.size<=x/\x<wr.heap.size) wr w':=λx hx=>(hk.block x (by omega) (by omega)).trans (hb.block x hx.2);have iC:=PL.below kT (S':=λx=>W4.heap.size<=x/\x<w'.heap.size) (λx hx=>⟨hx.1,by omega⟩) f _ _ et;have wC:=PL.below Hi (S':=λx=>W4.heap.size<=x/\x<(((((w'.setCell ⟨Cb,i*7+2,none⟩ v0).setCell ⟨Cb,i*7+3,none⟩ v1).setCell ⟨Cb,i*7+4,none⟩ v2).setCell ⟨Cb,i*7+5,none⟩ v3).setCell ⟨Cb,i*7+6,none⟩ v4).heap.size) (λx hx=>⟨hx.1,by rw [bj];exact hx.2⟩) f _ _ iC;have e5:(P9 step (cs.take (i+1)) n).1[j]=(P9 step (cs.take i) n).1[j]:=by
    simp only [hE];rw [WO (by omega)]
   rw [e5];exact wC
  have eX:j=i:=by
   rw [hE] at hj;simp [aA] at hj;omega
  subst eX;refine ⟨v0,v1,v2,v3,v4,?_,?_,?_,?_,?_,?_⟩
  ·rw [Q9,P7 (by omega),Q9,P7 (by omega),Q9,P7 (by omega),Q9,P7 (by omega),Q9,Pc rfl,Pc (by omega)]
  ·rw [Q9,P7 (by omega),Q9,P7 (by omega),Q9,P7 (by omega),Q9,Pc rfl,Pc (by simp;omega)]
  ·rw [Q9,P7 (by omega),Q9,P7 (by omega),Q9,Pc rfl,Pc (by simp;omega)]
  ·rw [Q9,P7 (by omega),Q9,Pc rfl,Pc (by simp;omega)]
  ·rw [Q9,Pc rfl,Pc (by simp;omega)]
  have iC:=PL.below (OZ.refl _ _) (S':=λx=>W4.heap.size<=x/\x<w'.heap.size) (λx hx=>⟨by omega,hx.2⟩) f _ _ ht;have wC:=PL.below Hi (S':=λx=>W4.heap.size<=x/\x<(((((w'.setCell ⟨Cb,j*7+2,none⟩ v0).setCell ⟨Cb,j*7+3,none⟩ v1).setCell ⟨Cb,j*7+4,none⟩ v2).setCell ⟨Cb,j*7+5,none⟩ v3).setCell ⟨Cb,j*7+6,none⟩ v4).heap.size) (λx hx=>⟨hx.1,by rw [bj];exact hx.2⟩) f _ _ iC;have e5:(P9 step (cs.take (j+1)) n).1[j]=(step cs[j] (P9 step (cs.take j) n).2).1:=by
   simp only [hE];rw [WN (by omega)];simp
  rw [e5];exact wC
 ·rw [hE];have h1:=h.cnt;refine ⟨by omega,?_⟩;rcases Sk (P9 step (cs.take i) n).2 5000 with hlt | hlt
  ·have:=kB.2 hlt;show (step cs[i] (P9 step (cs.take i) n).2).2<=_;omega
  have:=kB.1 hlt;show (step cs[i] (P9 step (cs.take i) n).2).2<=_;omega
 obtain ⟨aC,l1,nd,rg,ow⟩:=h.own;obtain ⟨bs,t1,t2,t3⟩:=ho;have aY:(aC++[bs]).flatten=aC.flatten++bs:=by simp
 refine ⟨aC++[bs],by simp [l1],?_,?_,λj hj=> ?_⟩
 ·rw [aY,S7];refine ⟨nd,t2,λa ha b hb e=> ?_⟩;have:=rg a ha;have:=t3 b hb;omega
 ·rw [aY];intro b hb;rw [bj];rcases PE.1 hb with hb | hb
  ·have:=rg b hb;omega
  have:=t3 b hb;omega
 rcases Sk j i with bZ | bZ
 ·have Eg:j<aC.length:=by omega
  obtain ⟨u0,u1,u2,u3,u4,e0,e1,e2,e3,e4,et⟩:=ow j Eg;refine ⟨u0,u1,u2,u3,u4,?_,?_,?_,?_,?_,?_⟩
  ·rw [bS _ (λq hq=>by omega)];exact e0
  ·rw [bS _ (λq hq=>by omega)];exact e1
  ·rw [bS _ (λq hq=>by omega)];exact e2
  ·rw [bS _ (λq hq=>by omega)];exact e3
  ·rw [bS _ (λq hq=>by omega)];exact e4
  rw [WO Eg];refine T1.on f _ _ et λb hb=> ?_;have:=rg b (RF.2 ⟨_,Px Eg,hb⟩);exact (fN b (by omega)).trans ((hk.block b (by omega) (by omega)).trans (cu b (by omega)))
 have eX:j=i:=by
  simp [l1] at hj;omega
 subst eX;refine ⟨v0,v1,v2,v3,v4,?_,?_,?_,?_,?_,?_⟩
 ·rw [Q9,P7 (by omega),Q9,P7 (by omega),Q9,P7 (by omega),Q9,P7 (by omega),Q9,Pc rfl,Pc (by omega)]
 ·rw [Q9,P7 (by omega),Q9,P7 (by omega),Q9,P7 (by omega),Q9,Pc rfl,Pc (by simp;omega)]
 ·rw [Q9,P7 (by omega),Q9,P7 (by omega),Q9,Pc rfl,Pc (by simp;omega)]
 ·rw [Q9,P7 (by omega),Q9,Pc rfl,Pc (by simp;omega)]
 ·rw [Q9,Pc rfl,Pc (by simp;omega)]
 have e5:(aC++[bs])[j]=bs:=by
  rw [WN (by omega)];simp [l1]
 rw [e5];refine T1.on f _ _ t1 λb hb=> ?_;have:=t3 b hb;exact fN b (by omega)
end
theorem x8 {n:Nat}:∀(lines:List (Nat×List Pt)),((Pq n lines).map (·.1)).Sublist (lines.map (·.1))/\∀s∈Pq n lines,∃l∈lines,s.1=l.1/\s.2∈l.2
 | []=>⟨List.Sublist.refl _,λs h=>by simp [Pq] at h⟩
 | a::r=>by
  obtain ⟨h1,h2⟩:=x8 (n:=n) r;cases hp:a.2[n]? with
  | none=>
   have hx:Pq n (a::r)=Pq n r:=by simp [Pq,hp]
   rw [hx];exact ⟨h1.cons _,λs hs=>by obtain ⟨l,hl,e⟩:=h2 s hs;exact ⟨l,RI _ hl,e⟩⟩
  | some p=>
   by_cases hw:Pm p=true
   ·have hx:Pq n (a::r)=Pq n r:=by simp [Pq,hp,hw]
    rw [hx];exact ⟨h1.cons _,λs hs=>by obtain ⟨l,hl,e⟩:=h2 s hs;exact ⟨l,RI _ hl,e⟩⟩
   have hx:Pq n (a::r)=(a.1,p)::Pq n r:=by simp [Pq,hp,hw]
   rw [hx];refine ⟨h1.cons_cons _,λs hs=> ?_⟩;rcases Qa.1 hs with rfl | hs
   ·exact ⟨a,by simp,rfl,Tf hp⟩
   obtain ⟨l,hl,e⟩:=h2 s hs;exact ⟨l,RI _ hl,e⟩
theorem YZ:∀(l:List Nat) (x:Nat),x∈l->x<=l.sum
 | a::r,x,h=>by
  rw [SO];rcases Qa.1 h with rfl | h
  ·omega
  have:=YZ r x h;omega
theorem Z6 {k:Kn}{rows:List (List Pt)}(hl:rows.length<=200){aH:Nat}{c:PM}(hc:c∈QA [] aH ((List.range rows.length).zip rows))(hr:UA k (rows.flatMap (·.map (·.1))).sum c.2.2=true)(m:Nat):Good k m c:=by
 obtain ⟨n,_,_,rfl⟩:=UH.1 hc;obtain ⟨h1,h2⟩:=x8 (n:=n) ((List.range rows.length).zip rows);have hz:((List.range rows.length).zip rows).map (·.1)=List.range rows.length:=D2 (by simp);rw [hz] at h1;refine ⟨Dp.sublist h1,λs hs=> ?_,⟨_,λs hs=> ?_,hr⟩,TD _⟩
 ·obtain ⟨l,cj,e1,_⟩:=h2 s hs;have:=T2.1 (OI cj).1;rw [e1];omega
 obtain ⟨l,cj,_,e2⟩:=h2 s hs;exact YZ _ _ (V7.2 ⟨l.2,(OI cj).2,PI.2 ⟨s.2,e2,rfl⟩⟩)
theorem aa1 (ai:List Nat)(aH:Nat)(lines:List (Nat×List Pt)):(QA ai aH lines).length<=aH:=by
 unfold QA;refine PZ (XH _ _) ?_;simp
section
variable {k:Kn}{fs:List Pu}{af:List Sp}{c:PM}
def PU (k:Kn)(af:List Sp):Prop:=∀d,UA k d af=true
theorem ND (k:Kn)(af:List Sp):PU k af↔together k af=true/\∀c∈Pg k af,∀col∈within k (af.filter (Pk c)) c.1 [],PU k col.2.2:=by
 constructor
 ·intro h;refine ⟨?_,λc hc col bA d=> ?_⟩
  ·have:=h 1;unfold UA at this;rw [Tj] at this;exact this.1
  have:=h (d+1);unfold UA at this;rw [Tj,TK] at this;have:=this.2 c hc;rw [TK] at this;exact this col bA
 rintro ⟨h1,h2⟩ d;cases d with
 | zero=>rfl
 | succ d=>
  unfold UA;rw [Tj,TK];refine ⟨h1,λc hc=> ?_⟩;rw [TK];exact λcol bA=>h2 c hc col bA d
theorem NG (k:Kn):PU k []:=(ND k []).2 ⟨rfl,λc hc=>by simp [Pg] at hc⟩
def SK (l:List Sp):Nat:=(l.map λs=>s.2.sz).sum
def RS (l:List PM):Nat:=(l.map λc=>SK c.2.2).sum
theorem ZA (a b:List PM):RS (a++b)=RS a+RS b:=by simp [RS]
theorem WC (a:PM)(b:List PM):RS (a::b)=SK a.2.2+RS b:=by simp [RS]
theorem Xc (l:List Sp):l.length<=SK l:=by
 induction l with
 | nil=>simp
 | cons a r ih=>
  have:=a.2.sz_pos;simp only [SK,Re,SO,Rj] at *
  omega
theorem FY (l:List PM)(h:∀c∈l,c.2.2≠[]):l.length<=RS l:=by
 induction l with
 | nil=>simp
 | cons a r ih=>
  have h1:=ih λc hc=>h c (RI _ hc);have h2:=h a (by simp);have h3:=Xc a.2.2;have h4:0<a.2.2.length:=Tk.2 h2;rw [WC,Rj];omega
def S0 (l:List (Nat×List Pt))(w:Nat):Nat:=(l.map λx=>Q6 (x.2.take w)).sum
theorem ab1 (l:List Pt)(w:Nat):Q6 (l.take (w+1))=Q6 (l.take w)+(match l[w]? with | some p=>p.sz | none=>0):=by
 rw [S1,Lh]
 congr 1
 cases l[w]? with
 | none=>rfl
 | some p=>simp [Q6]
theorem Jq (n:Nat):∀(lines:List (Nat×List Pt)),SK (Pq n lines)+S0 lines n<=S0 lines (n+1)
 | []=>by simp [Pq,SK,S0]
 | a::r=>by
  have ih:=Jq n r;have h1:S0 (a::r) n=Q6 (a.2.take n)+S0 r n:=by simp [S0]
  have h2:S0 (a::r) (n+1)=Q6 (a.2.take (n+1))+S0 r (n+1):=by simp [S0]
  rw [h1,h2,ab1];have h3:SK (Pq n (a::r))<=(match a.2[n]? with | some p=>p.sz | none=>0)+SK (Pq n r):=by
   unfold Pq;rw [Ui];cases hg:a.2[n]? with
   | none=>simp
   | some p=>
    simp only;by_cases hw:Pm p=true
    ·rw [Pc hw];simp
    rw [P7 hw];simp [SK]
  omega
theorem KZ (ai:List Nat)(w:Nat)(lines:List (Nat×List Pt)):QA ai (w+1) lines=QA ai w lines++(if (Pq w lines).isEmpty then [] else [(ai,w,Pq w lines)]):=by
 unfold QA;rw [YH,WL]
 congr 1
 rw [Ui,Dx];by_cases h:(Pq w lines).isEmpty=true
 ·rw [Pc h,Pc h]
 rw [P7 h,P7 h]
theorem D' (ai:List Nat):∀(w:Nat) (lines:List (Nat×List Pt)),RS (QA ai w lines)<=S0 lines w
 | 0,lines=>by simp [QA,RS]
 | w+1,lines=>by
  have ih:=D' ai w lines;have h:=Jq w lines;rw [KZ,ZA];by_cases he:(Pq w lines).isEmpty=true
  ·rw [Pc he];have:RS []=0:=rfl;omega
  rw [P7 he];have:RS [(ai,w,Pq w lines)]=SK (Pq w lines):=by simp [RS]
  omega
theorem Cp:∀(lines:List (Nat×List Pt)) (w:Nat),S0 lines w<=(lines.map λx=>Q6 x.2).sum
 | [],w=>by simp [S0]
 | a::r,w=>by
  have ih:=Cp r w;have h1:S0 (a::r) w=Q6 (a.2.take w)+S0 r w:=by simp [S0]
  have h2:Q6 a.2=Q6 (a.2.take w)+Q6 (a.2.drop w):=by rw [<-Lh,Ug]
  rw [h1,Re,SO];omega
theorem ac1 (k:Kn)(af:List Sp)(con:Qg)(path:List Nat):RS (within k af con path)+af.length<=SK af:=by
 have h1:=D' path (O' k con).2.2 (RX af);have h2:=Cp (RX af) (O' k con).2.2;have h3:∀l:List Sp,((RX l).map λx=>Q6 x.2).sum+l.length=SK l:=by
  intro l
  induction l with
  | nil=>rfl
  | cons s r ih=>
   have e1:RX (s::r)=(s.1,s.2.kids)::RX r:=rfl;have e2:SK (s::r)=s.2.sz+SK r:=by simp [SK]
   rw [e1,e2,s.2.sz_eq,<-ih,Re,SO,Rj];show Q6 s.2.kids+_+_=_;omega
 have h4:=h3 af;show RS (QA path _ _)+_<=_;omega
theorem rx0 (hk:KnOk k fs)(h:together k af=true){c:Cs}(hc:c∈Pg k af){s:Sp}(hs:s∈af):Pk c s=true↔c=PA s.2:=by
 obtain ⟨t,ht,rfl,_⟩:=U' hk h hc;obtain ⟨h1,h2,_⟩:=SF h s hs t ht;obtain ⟨_,h3,_⟩:=SF h t ht t ht;rcases P' h3 with h4 | h4
 ·have e1:PA t.2=([],t.2.num):=by unfold PA;rw [P7 (by omega)]
  have e2:PA s.2=([],s.2.num):=by unfold PA;rw [P7 (by omega)]
  rw [e1,e2];unfold Pk;rw [Pc rfl];constructor
  ·intro e;have e:=Us e;show (([]:Qg),t.2.num)=([],s.2.num);rw [show s.2.num=t.2.num from e]
  intro e;have:t.2.num=s.2.num:=(Prod.mk.inj e).2;show (s.2.num==t.2.num)=true;rw [this];simp
 have e1:PA t.2=(t.2.name,0):=by unfold PA;rw [Pc h4]
 have e2:PA s.2=(s.2.name,0):=by unfold PA;rw [Pc (by omega)]
 obtain ⟨c,hl,_⟩:=Tg h3 h4;have hn:=hk.name _ (Su hl);rw [e1,e2];unfold Pk;rw [P7 hn];constructor
 ·intro e;have e:=Us e;show (t.2.name,(0:Int))=(s.2.name,0);rw [show s.2.name=t.2.name from e]
 intro e;have:t.2.name=s.2.name:=(Prod.mk.inj e).1;show (s.2.name==t.2.name)=true;rw [this];exact NR _
theorem ry0 {α:Type}(g:Sp->Nat)(oE:Sp->α)[DecidableEq α](cs:List α)(hn:cs.Nodup):∀(af:List Sp),(cs.map λc=>((af.filter λs=>decide (c=oE s)).map g).sum).sum<=(af.map g).sum
 | []=>by
  have:∀l:List α,(l.map λc=>((([]:List Sp).filter λs=>decide (c=oE s)).map g).sum).sum=0:=by
   intro l
   induction l with
   | nil=>rfl
   | cons a r ih=>
    rw [Re,SO,ih]
    rfl
  rw [this];simp
 | s::r=>by
  have ih:=ry0 g oE cs hn r;have h1:∀l:List α,l.Nodup->(l.map λc=>(((s::r).filter λs=>decide (c=oE s)).map g).sum).sum<=g s+(l.map λc=>((r.filter λs=>decide (c=oE s)).map g).sum).sum/\(oE s∉l->(l.map λc=>(((s::r).filter λs=>decide (c=oE s)).map g).sum).sum=(l.map λc=>((r.filter λs=>decide (c=oE s)).map g).sum).sum):=by
   intro l
   induction l with
   | nil=>intro _;exact ⟨by simp,λ_=>rfl⟩
   | cons c l ih2=>
    intro hnd;rw [U6] at hnd;obtain ⟨i1,i2⟩:=ih2 hnd.2;rw [Re,SO,Re,SO,OK];by_cases he:c=oE s
    ·have hd:decide (c=oE s)=true:=by simpa using he
     rw [Pc hd,Re,SO];have:=i2 (by rw [<-he];exact hnd.1);refine ⟨by omega,λhx=>absurd (by rw [he];simp) hx⟩
    have hd:¬decide (c=oE s)=true:=by simpa using he
    rw [P7 hd];exact ⟨by omega,λhx=>by rw [i2 (λhm=>hx (RI _ hm))]⟩
  have:=(h1 cs hn).1;rw [Re,SO];omega
theorem EM (hk:KnOk k fs)(h:together k af=true):RS ((Pg k af).flatMap λc=>within k (af.filter (Pk c)) c.1 [])+(if af=[] then 0 else 1)<=SK af:=by
 have hA:=Uf hk h;obtain ⟨hr,_⟩:=TS k af hA;have hnd:(Pg k af).Nodup:=by
  rw [List.nodup_iff_pairwise_ne];refine hr.imp λdQ e=> ?_;rw [e,NE] at dQ;cases dQ
 have hp:=ry0 (λs=>s.2.sz) (λs=>PA s.2) (Pg k af) hnd af;have h1:∀l:List Cs,(∀c∈l,c∈Pg k af)->RS (l.flatMap λc=>within k (af.filter (Pk c)) c.1 [])+l.length<=(l.map λc=>((af.filter λs=>decide (c=PA s.2)).map λs=>s.2.sz).sum).sum:=by
  intro l
  induction l with
  | nil=>intro _;simp [RS]
  | cons c l ih=>
   intro hc;have i1:=ih λd hd=>hc d (RI _ hd);have hcc:=hc c (by simp);have e:af.filter (Pk c)=af.filter λs=>decide (c=PA s.2):=by
    refine NA λs hs=> ?_;have:=rx0 hk h hcc hs;cases hb:Pk c s with
    | true=>exact (T7 (this.1 hb)).symm
    | false=>exact (Ti λe=>by rw [this.2 e] at hb;cases hb).symm
   have i2:=ac1 k (af.filter (Pk c)) c.1 [];have i3:0<(af.filter (Pk c)).length:=by
    obtain ⟨s,hs,_,hi⟩:=U' hk h hcc;exact Tk.2 (Lv (Sq.2 ⟨hs,hi⟩))
   rw [Y5,ZA,Re,SO,Rj,<-e];have:SK (af.filter (Pk c))=((af.filter (Pk c)).map λs=>s.2.sz).sum:=rfl;omega
 have h2:=h1 _ λc hc=>hc;have h3:SK af=(af.map λs=>s.2.sz).sum:=rfl;have h4:(if af=[] then 0 else 1)<=(Pg k af).length:=by
  by_cases e:af=[]
  ·rw [Pc e];omega
  rw [P7 e];cases hs:af with
  | nil=>exact absurd hs e
  | cons s r=>
   have:PA s.2∈Pg k af:=((TS k af hA).2 _).2 (by rw [hs];simp);rw [hs] at this;exact Tk.2 (Lv this)
 omega
structure Wt (c:PM):Prop where
 ne:c.2.2≠[]
 rise:(c.2.2.map (·.1)).Pairwise (· < ·)
 rows:∀s∈c.2.2,s.1<200
theorem Wt.len (h:Wt c):c.2.2.length<=200:=by
 have:=Zz h.rise 200 (λx hx=>by
  obtain ⟨s,hs,rfl⟩:=PI.1 hx;exact h.rows s hs)
 simpa using this
theorem Wt.within (h:Wt c){k:Kn}{p:Sp->Bool}{con:Qg}{path:List Nat}:∀col∈within k (c.2.2.filter p) con path,Wt col:=by
 intro col bA;obtain ⟨n,_,am,rfl⟩:=UH.1 bA;have hs:=(EJ (n:=n) (c.2.2.filter p)).trans (List.Sublist.map _ TW);refine ⟨am,h.rise.sublist hs,λs hsp=> ?_⟩;obtain ⟨t,ht,e,_⟩:=OW hsp;rw [<-e];exact h.rows t (Sq.1 ht).1
end
section
variable {k:Kn}
structure KnIn (i p:Nat)(k:Kn):Prop where
 place:∀e∈k,∀e'∈k,e.2.1=e'.2.1->e.2.2.1=e'.2.2.1->e.1=e'.1
 name:∀e∈k,e.1≠[]
 fields:∀e∈k,e.2.2.2<=8
 low:∀e∈k,e.2.1<i\/(e.2.1=i/\e.2.2.1<p)
theorem KnIn.put {i p:Nat}(h:KnIn i p k){n:Qg}{x:Int}(hn:n≠[])(h0:0<=x)(h8:x<=8):KnIn i (p+1) (k++[(n,i,p,x.toNat)]):=by
 refine ⟨λe he e' mu h1 h2=> ?_,λe he=> ?_,λe he=> ?_,λe he=> ?_⟩
 ·rcases PE.1 he with he | he
  ·rcases PE.1 mu with mu | mu
   ·exact h.place e he e' mu h1 h2
   obtain rfl:=Ra.1 mu;rcases h.low e he with hl | hl
   ·exact absurd h1 (ZC hl)
   exact absurd h2 (ZC hl.2)
  obtain rfl:=Ra.1 he;rcases PE.1 mu with mu | mu
  ·rcases h.low e' mu with hl | hl
   ·exact absurd h1.symm (ZC hl)
   exact absurd h2.symm (ZC hl.2)
  obtain rfl:=Ra.1 mu
  rfl
 ·rcases PE.1 he with he | he
  ·exact h.name e he
  obtain rfl:=Ra.1 he;exact hn
 ·rcases PE.1 he with he | he
  ·exact h.fields e he
  obtain rfl:=Ra.1 he;show x.toNat<=8;omega
 rcases PE.1 he with he | he
 ·rcases h.low e he with hl | hl
  ·exact .inl hl
  exact .inr ⟨hl.1,Nat.lt_succ_of_lt hl.2⟩
 obtain rfl:=Ra.1 he;exact .inr ⟨rfl,Nat.lt_succ_self _⟩
theorem LG {i:Nat}:∀(ns:List Qg) (xs:List Int) (p:Nat) (k k':Kn),KnIn i p k->Qt i k p ns xs=some k'->∃p',KnIn i p' k'
 | [],_,p,k,k',h,e=>by
  unfold Qt at e;obtain rfl:=Qs e;exact ⟨p,h⟩
 | _::_,[],_,_,_,_,e=>by
  unfold Qt at e;cases e
 | n::ns,x::xs,p,k,k',h,e=>by
  unfold Qt at e;by_cases hc:n=[]\/(∃e∈k,e.1=n)\/x<0\/8<x
  ·rw [Pc hc] at e;cases e
  rw [P7 hc] at e;have h1:n≠[]:=λh=>hc (.inl h);have h2:¬x<0:=λh=>hc (.inr (.inr (.inl h)));have h3:¬8<x:=λh=>hc (.inr (.inr (.inr h)));exact LG ns xs (p+1) _ k' (h.put h1 (by omega) (by omega)) e
theorem ru0:∀(fs:List Pu) (i:Nat) (k k':Kn),KnIn i 0 k->Po i k fs=some k'->KnIn (i+fs.length) 0 k'
 | [],i,k,k',h,e=>by
  unfold Po at e;obtain rfl:=Qs e;exact h
 | f::fs,i,k,k',h,e=>by
  unfold Po at e;by_cases hc:f.1.length=0\/24<f.1.length\/f.2.length≠f.1.length
  ·rw [Pc hc] at e;cases e
  rw [P7 hc] at e;cases hk:Qt i k 0 f.1 f.2 with
  | none=>rw [hk] at e;cases e
  | some k1=>
   rw [hk] at e;obtain ⟨p',h1⟩:=LG f.1 f.2 0 k k1 h hk;have h2:KnIn (i+1) 0 k1:=⟨h1.place,h1.name,h1.fields,λe he=> .inl (by rcases h1.low e he with hl | hl<;>omega)⟩;have h3:=ru0 fs (i+1) k1 k' h2 e;rw [Rj,show i+(fs.length+1)=i+1+fs.length by omega];exact h3
theorem SJ {fs:List Pu}(h:Po 0 [] fs=some k):KnOk k fs:=by
 have h1:=ru0 fs 0 [] k ⟨λe he=>by simp at he,λe he=>by simp at he,λe he=>by simp at he,λe he=>by simp at he⟩ h;refine ⟨h1.place,h1.name,h1.fields,λe he=> ?_⟩;rcases h1.low e he with hl | hl
 ·omega
 omega
end
