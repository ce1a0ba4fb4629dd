import Derived.Test.YtpdmkhnonbbhnaaGreatMtx
import Derived.Test.YtpdmkhnonbbhnaaGreatMwx
namespace Go.Proofs.YtpdmkhnonbbhnaaGreat
open Go.RowKit Go.Maps
variable {lo:Nat}{iv:Value}{w wr w':World}
abbrev Ir:=Value×List Pt×List Nat
structure Irs (lo:Nat)(l:List Ir)(iv:Value)(w:World):Prop where
 out:w.ownsRow lo 31 1 iv l.length (l.map (·.1))
 tw:∀x∈l,(∃d,Tw w d x.1 x.2.1 x.2.2)/\x.2.2.Nodup/\∀b∈x.2.2,lo<=b/\iv.ownBlock≠some b
 nd:(l.map (·.2.2)).flatten.Nodup
theorem Irs.nil (lo:Nat)(w:World):Irs lo [] (.slice none 0 0) w:=⟨U4 _ _ _ _,λx h=>by simp at h,by simp⟩
theorem Irs.on {l:List Ir}(h:Irs lo l iv w)(hk:∀y,lo<=y->y<w.heap.size->w'.heap[y]? =w.heap[y]?):Irs lo l iv w':=by
 refine ⟨MC h.out λy hy=>hk y (h.out.lt y hy).1 (h.out.lt y hy).2,λx hx=> ?_,h.nd⟩;obtain ⟨⟨d,h1⟩,h2,h3⟩:=h.tw x hx;exact ⟨⟨d,Tw.on _ _ _ _ h1 λb hb=>hk b (h3 b hb).1 (Tw.lt _ _ _ _ h1 b hb)⟩,h2,h3⟩
theorem Zf {l:List Ir}{b:Nat}:b∈(l.map (·.2.2)).flatten↔∃x∈l,b∈x.2.2:=by
 rw [RF];constructor
 ·rintro ⟨bs,h1,h2⟩;obtain ⟨x,hx,rfl⟩:=PI.1 h1;exact ⟨x,hx,h2⟩
 rintro ⟨x,hx,h⟩;exact ⟨_,PI.2 ⟨x,hx,rfl⟩,h⟩
theorem Irs.put {l:List Ir}{w5 w7:World}(h:Irs lo l iv wr)(iR:lo<=wr.heap.size){v:Value}{ps:List Pt}{bs:List Nat}{d:Nat}(hb:Below wr.heap.size wr w5)(ht:Tw w5 d v ps bs)(hn:bs.Nodup)(hbs:∀b∈bs,wr.heap.size<=b/\b<w5.heap.size){g cap:Nat}{o:Obj}(ho:w7.ownsRow lo 31 1 (.slice (some ⟨g,0,none⟩) (l.length+1) cap) (l.length+1) (l.map (·.1)++[v]))(hg:(w5.alloc o).grownBy w7 iv.ownBlock)(bL:iv.ownBlock=some g\/g=w5.heap.size+1):Irs lo (l++[(v,ps,bs)]) (.slice (some ⟨g,0,none⟩) (l.length+1) cap) w7:=by
 have s5:=hb.size;have pz:∀y,iv.ownBlock=some y->y<wr.heap.size:=λy hy=>(h.out.lt y hy).2;have aE:∀y,y<w5.heap.size->iv.ownBlock≠some y->w7.heap[y]? =w5.heap[y]? :=λy hy am=>(hg.block y (by rw [Sb];omega) λe=>am e.symm).trans (Qq _ _ _ hy);have k7:∀x∈l,∀b∈x.2.2,b<wr.heap.size:=λx hx b hb=>by
  obtain ⟨⟨d,h1⟩,_⟩:=h.tw x hx;exact Tw.lt _ _ _ _ h1 b hb
 refine ⟨by rw [QP,R6];exact ho,λx hx=> ?_,?_⟩
 ·rcases PE.1 hx with hx | hx
  ·obtain ⟨⟨d',h1⟩,h2,h3⟩:=h.tw x hx;refine ⟨⟨d',Tw.on _ _ _ _ h1 λb aj=>(aE b (by have:=k7 x hx b aj;omega) (h3 b aj).2).trans (hb.block b (k7 x hx b aj))⟩,h2,λb aj=>⟨(h3 b aj).1,λe=> ?_⟩⟩;injection e with e;have e:g=b:=e;have:=k7 x hx b aj;rcases bL with bL | bL
   ·exact (h3 b aj).2 (by rw [bL,e])
   omega
  obtain rfl:=Ra.1 hx;refine ⟨⟨d,Tw.on _ _ _ _ ht λb aj=>aE b (hbs b aj).2 λe=>by have:=pz b e;have:=(hbs b aj).1;omega⟩,hn,λb aj=>⟨by have:=(hbs b aj).1;omega,λe=> ?_⟩⟩;injection e with e;have e:g=b:=e;have:=hbs b aj;rcases bL with bL | bL
  ·have:=pz g bL;omega
  omega
 rw [R6,Tu,S7];refine ⟨h.nd,by simpa using hn,λa ha b aj e=> ?_⟩;obtain ⟨x,hx,ha⟩:=Zf.1 ha;have:=k7 x hx a ha;have aj:b∈bs:=by simpa using aj
 have:=hbs b aj;omega
theorem Irs.rows {l:List Ir}(h:Irs lo l iv w):∃ad cap,iv= .slice ad l.length cap/\RH w (λy=>y<w.heap.size) (.slice ad l.length cap) (l.map (·.2.1)):=by
 rcases id h.out.2 with ⟨h1,h2⟩ | ⟨g,cap,cur,h1,h3,h4,h5,h6,h7,h8⟩
 ·have h0:l=[]:=Up.1 h2;subst h0;exact ⟨none,0,h1,.inl ⟨rfl,none,0,rfl⟩⟩
 refine ⟨_,cap,h1,?_⟩;by_cases h0:l=[]
 ·subst h0;exact .inl ⟨rfl,_,cap,rfl⟩
 refine .inr ⟨g,0,cap,by rw [Qb],by simpa using h0,by rw [Qb];exact h5,λj hj=> ?_⟩;rw [Qb] at hj;rw [R7,Rp,R4];obtain ⟨⟨d,ht⟩,_,_⟩:=h.tw _ (Px hj);have hp:=Tw.pats (S:=λy=>y<w.heap.size) _ _ _ _ ht λb hb=>Tw.lt _ _ _ _ ht b hb;obtain ⟨ad,cp,hv⟩:=Pd.len hp;refine ⟨PV h4,ad,cp,?_,by rw [<-hv];exact hp⟩;have hc:w.cell? ⟨g,j,none⟩=(l.map (·.1))[j]? :=by
  rw [h1] at h;exact Uw h.out (by omega)
 rw [hc,X8,PR hj,YM,hv]
theorem Irs.at {l:List Ir}(h:Irs lo l iv w){j:Nat}(hj:j<l.length):∃g cap ad cp,iv= .slice (some ⟨g,0,none⟩) l.length cap/\l.length<=cap/\lo<=g/\g<w.heap.size/\(∃cur,w.heap[g]? =some (.cells cur 31 (0,0))/\cur.size=cap)/\l[j].1= .slice ad l[j].2.1.length cp/\w.cell? ⟨g,j,none⟩=some (.slice ad l[j].2.1.length cp):=by
 rcases id h.out.2 with ⟨h1,h2⟩ | ⟨g,cap,cur,h1,h3,h4,h5,h6,h7,h8⟩
 ·omega
 obtain ⟨⟨d,ht⟩,_,_⟩:=h.tw _ (Px hj);have hp:=Tw.pats (S:=λy=>y<w.heap.size) _ _ _ _ ht λb hb=>Tw.lt _ _ _ _ ht b hb;obtain ⟨ad,cp,hv⟩:=Pd.len hp;refine ⟨g,cap,ad,cp,h1,h5,h3,PV h4,⟨cur,h4,by omega⟩,hv,?_⟩;have hc:w.cell? ⟨g,j,none⟩=(l.map (·.1))[j]? :=by
  rw [h1] at h;exact Uw h.out (by omega)
 rw [hc,X8,PR hj,YM,hv]
def Z0 (l:List Ir)(i j:Nat)(hi:i<l.length)(hj:j<l.length):List Ir:=(l.set i l[j]).set j l[i]
theorem Y0 (l:List Ir)(i j:Nat)(hi:i<l.length)(hj:j<l.length):(Z0 l i j hi hj).length=l.length:=by simp [Z0]
theorem mj0 (l:List Ir)(i j:Nat)(hi:i<l.length)(hj:j<l.length):(Z0 l i j hi hj).Perm l:=by
 unfold Z0;exact List.set_set_perm hi hj
theorem Irs.swap {l:List Ir}(h:Irs lo l iv w){i j g cap:Nat}(hi:i<l.length)(hj:j<l.length)(hv:iv= .slice (some ⟨g,0,none⟩) l.length cap):Irs lo (Z0 l i j hi hj) iv ((w.setCell ⟨g,i,none⟩ l[j].1).setCell ⟨g,j,none⟩ l[i].1):=by
 have hp:=mj0 l i j hi hj;have cM:∀y,y≠g->((w.setCell ⟨g,i,none⟩ l[j].1).setCell ⟨g,j,none⟩ l[i].1).heap[y]? =w.heap[y]? :=λy hy=>by
  rw [PX _ _ _ _ hy,PX _ _ _ _ hy]
 refine ⟨?_,λx hx=> ?_,?_⟩
 ·rw [Y0];obtain ⟨h1,h2⟩:=h.out;refine ⟨by simp [Z0],?_⟩;rcases h2 with ⟨h2,h3⟩ | ⟨g',cap',cur,h2,h3,h4,h5,h6,h7,h8⟩
  ·omega
  rw [hv] at h2;obtain ⟨e1,_,e2⟩:=RM h2;injection e1 with e1;injection e1 with e1;subst e1 e2;have a0:=Q5 (i:=i) (v:=l[j].1) h4;have a1:=Q5 (i:=j) (v:=l[i].1) a0;refine .inr ⟨g,cap,_,hv,h3,a1,h5,h6,by simp;omega,?_⟩;rw [yL,yL];refine Lt λq=> ?_;rw [R4] at h8⊢;have h9:=congrArg (λx:List Value=>x[q]?) h8;simp only [ZH,Z0] at h9⊢;rw [N',N',Oj,Oj,Oj,Oj];by_cases hq:q<l.length
  ·rw [Pc hq] at h9⊢;have s1:cur.toList.length=cap:=by rw [Array.length_toList];omega
   simp only [XO,Qb,s1];by_cases e1:j=q
   ·rw [Pc e1,Pc e1,Pc (by omega),Pc (by omega)]
   rw [P7 e1,P7 e1];by_cases e2:i=q
   ·rw [Pc e2,Pc e2,Pc (by omega),Pc (by omega)]
   rw [P7 e2,P7 e2];exact h9
  rw [P7 hq] at h9⊢;rw [P7 (by omega),P7 (by omega)];exact h9
 ·obtain ⟨⟨d,h1⟩,h2,h3⟩:=h.tw x (hp.mem_iff.1 hx);refine ⟨⟨d,Tw.on _ _ _ _ h1 λb hb=>cM b λe=>(h3 b hb).2 ?_⟩,h2,h3⟩;rw [hv,e]
  rfl
 exact ((hp.map _).flatten).nodup_iff.2 h.nd
structure Isp (lo:Nat)(l:List Ir)(iv:Value)(w:World)(i:Nat)(wr:World):Prop where
 kx:KxB (l.map (·.2.2)).flatten w wr
 dn:∀j (h:j<l.length),j<i->Pl wr (λy=>y∈l[j].2.2) l[j].1 (l[j].2.1.map λ_=>SY)
 rest:∀j (h:j<l.length),i<=j->∃d,Tw wr d l[j].1 l[j].2.1 l[j].2.2
theorem Isp.start {l:List Ir}(h:Irs lo l iv w):Isp lo l iv w 0 w:=⟨KxB.refl _ _,λj _ hj=>by omega,λj hj _=>(h.tw _ (Px hj)).1⟩
theorem mk0 {l:List Ir}(hn:(l.map (·.2.2)).flatten.Nodup){i j:Nat}(hi:i<l.length)(hj:j<l.length)(am:i≠j){b:Nat}(h1:b∈l[i].2.2)(h2:b∈l[j].2.2):False:=by
 have k1:i<(l.map (·.2.2)).length:=by simpa using hi
 have k2:j<(l.map (·.2.2)).length:=by simpa using hj
 rcases Nat.lt_or_gt_of_ne am with h | h
 ·exact Z1 hn k2 (b:=b) (by rw [R7];exact h2) (RF.2 ⟨(l.map (·.2.2))[i],Yr.2 ⟨i,by omega,rfl⟩,by rw [R7];exact h1⟩)
 exact Z1 hn k1 (b:=b) (by rw [R7];exact h1) (RF.2 ⟨(l.map (·.2.2))[j],Yr.2 ⟨j,by omega,rfl⟩,by rw [R7];exact h2⟩)
theorem Isp.step {l:List Ir}{i:Nat}(h0:Irs lo l iv w)(h:Isp lo l iv w i wr)(hi:i<l.length)(hk:KxB l[i].2.2 wr w')(hp:Pl w' (λy=>y∈l[i].2.2) l[i].1 (l[i].2.1.map λ_=>SY)):Isp lo l iv w (i+1) w':=by
 have hlt:∀j (hj:j<l.length),∀b∈l[j].2.2,b<wr.heap.size:=λj hj b hb=>by
  obtain ⟨⟨d,ht⟩,_⟩:=h0.tw _ (Px hj);exact PQ (Tw.lt _ _ _ _ ht b hb) h.kx.size
 refine ⟨h.kx.trans (hk.up λy hy=>Zf.2 ⟨_,Px hi,hy⟩),λj hj by2=> ?_,λj hj fk=> ?_⟩
 ·by_cases e:j=i
  ·subst e;exact hp
  exact (h.dn j hj (by omega)).on λy hy=>hk.block y (hlt j hj y hy) λq=>mk0 h0.nd hj hi e hy q
 obtain ⟨d,ht⟩:=h.rest j hj (by omega);exact ⟨d,Tw.on _ _ _ _ ht λb hb=>hk.block b (hlt j hj b hb) λq=>mk0 h0.nd hj hi (by omega) hb q⟩
theorem Isp.rows {l:List Ir}(h0:Irs lo l iv w)(h:Isp lo l iv w l.length wr){ad:Option Addr}{cap:Nat}(hv:iv= .slice ad l.length cap){S:Nat->Prop}(hS:∀y,(iv.ownBlock=some y\/y∈(l.map (·.2.2)).flatten)->S y):RH wr S (.slice ad l.length cap) (l.map λx=>x.2.1.map λ_=>SY):=by
 by_cases vJ:l=[]
 ·subst vJ;exact .inl ⟨rfl,ad,cap,rfl⟩
 have hp:0<l.length:=Tk.2 vJ;obtain ⟨g,cap',_,_,e,h5,h6,h7,_⟩:=h0.at hp;rw [hv] at e;obtain ⟨e1,_,e2⟩:=RM e;subst e1 e2;refine .inr ⟨g,0,cap,by rw [Qb],by simpa using vJ,by rw [Qb];exact h5,λj hj=> ?_⟩;rw [Qb] at hj;rw [R7,Rp,R4];obtain ⟨g',ak5,ad',Bj,e',_,_,_,_,co4,hc⟩:=h0.at hj;rw [hv] at e';obtain ⟨e1,_,_⟩:=RM e';injection e1 with e1;injection e1 with e1;subst e1;have hd:=h.dn j hj hj;refine ⟨hS g (.inl (by rw [hv];rfl)),ad',Bj,?_,?_⟩
 ·rw [Qb];refine (Qm (h.kx.block g h7 λq=> ?_) _).trans hc;obtain ⟨x,hx,hb⟩:=Zf.1 q;exact ((h0.tw x hx).2.2 g hb).2 (by rw [hv];rfl)
 rw [Qb,<-co4];exact hd.up λb hb=>hS b (.inr (Zf.2 ⟨_,Px hj,hb⟩))
theorem yt1 (ps:List Pt):Q6 (ps.map λ_=>SY)<=Q6 ps:=by
 unfold Q6;rw [TL];have h1:∀l:List Pt,(l.map (Pt.sz∘λ_=>SY)).sum=l.length:=λl=>by
  induction l with
  | nil=>rfl
  | cons a r ih=>rw [Re,SO,ih,Rj];show 1+_=_;omega
 rw [h1];exact Xs ps
