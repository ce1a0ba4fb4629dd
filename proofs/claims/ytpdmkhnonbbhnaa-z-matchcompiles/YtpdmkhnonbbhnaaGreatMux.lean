import Derived.Test.YtpdmkhnonbbhnaaGreatMox
import Derived.Test.YtpdmkhnonbbhnaaGreatRt
import Derived.Test.YtpdmkhnonbbhnaaGreatMcx
namespace Go.Proofs.YtpdmkhnonbbhnaaGreat
open Go.RowKit Go.Maps
set_option maxHeartbeats 8000000
set_option maxRecDepth 10000
set_option linter.unusedSimpArgs false
section
variable {ps:List Pt}{i:Nat}{w:World}
theorem cf1 (w:World)(n:Nat)(hn:n<=100000):(Instr.makeSlice 31 (.int .i64 0) (.int .i64 (n+2:Nat))).run Tryz.prog w= .ok (.slice (some ⟨w.heap.size,0,none⟩) 0 (n+2)) (w.alloc (.cells (madeCells #[.int .i64 0,.string ⟨#[]⟩,.int .i64 0,.slice none 0 0] ((n+2)*4)) 50)):=by
 obtain ⟨i0,hi,c8,bK,bJ⟩:=info_parts (show (Tryz.prog.info? 50).map (λi=>(i.zero,i.size,i.bytes))=some (some (.agg #[.int .i64 0,.string ⟨#[]⟩,.int .i64 0,.slice none 0 0]),4,56) by kernel_rfl);have:=Y6 (P:=Tryz.prog) w 31 50 i0 _ Tryz.underlying31 hi c8 .i64 .i64 0 (n+2:Nat) (by omega) (by omega) (by rw [bK];simp;omega) (by rw [bJ];omega) (by omega);rw [bK] at this;exact this
theorem UW {α:Type}(E:Elt α)(e:Nat)(w:World)(n:Nat)(z:Array Value)(hn:n<=1000000):Pi E e w.heap.size (λ_=>False) (w.alloc (.cells (madeCells z (n*E.k)) e)) (.slice (some ⟨w.heap.size,0,none⟩) 0 n) ([]:List α):=by
 refine ⟨⟨[],Sy.nil _ _ _,by simp,.inr ⟨w.heap.size,n,_,rfl,P6 _,PF _ _,TD _,by unfold maxLen;omega,by simp [madeCells],by simp⟩⟩,λy hy e=> ?_⟩;rcases hy with hy | hy
 ·exact hy
 exact hy.2.2 e
def M7 (D:Nat)(ps:List Pt)(w:World)(r:Ending)(w':World):Prop:=Below w.heap.size w w'/\∃g cap bs,r= .returned (.slice (some ⟨g,0,none⟩) ps.length cap)/\Tw w' (D+1) (.slice (some ⟨g,0,none⟩) ps.length cap) ps bs/\bs.Nodup/\∀b∈bs,w.heap.size<=b/\b<w'.heap.size
def KN (D:Nat):Prop:=∀(ps:List Pt),(∀p∈ps,p.1<=D)->Q6 ps<=100000->∀(w:World) (S:Nat->Prop) (ad:Option Addr) (cap:Nat),(∀b,S b->b<w.heap.size)->Pl w S (.slice ad ps.length cap) ps->Calls Tryz.prog 8 #[.slice ad ps.length cap] w (M7 D ps w)
theorem Vp:∀(p:Pt),∀q∈p.kids,q.1+1=p.1
 | ⟨0,t⟩=>t.elim
 | ⟨d+1,t⟩=>λq hq=>by
  obtain ⟨u,_,rfl⟩:=PI.1 hq
  rfl
theorem Pt.dep_pos:∀p:Pt,0<p.1
 | ⟨0,t⟩=>t.elim
 | ⟨d+1,_⟩=>Nat.succ_pos d
structure Twl (ps:List Pt)(i:Nat)(l:List (Pt×List Nat×Bool))(w:World):Prop where
 are:l.map (·.1)=ps.take i
 all:∀x∈l,x.2.2=true
 nd:(l.map (·.2.1)).flatten.Nodup
 lt:∀b∈(l.map (·.2.1)).flatten,b<w.heap.size
theorem Twl.len {l:List (Pt×List Nat×Bool)}(h:Twl ps i l w)(hi:i<=ps.length):l.length=i:=by
 have:=congrArg List.length h.are;rw [Qb,RW] at this;omega
theorem Twl.put {l:List (Pt×List Nat×Bool)}{w':World}(h:Twl ps i l w)(hi:i<ps.length){bs:List Nat}(hn:bs.Nodup)(hb:∀b∈bs,w.heap.size<=b/\b<w'.heap.size)(hs:w.heap.size<=w'.heap.size):Twl ps (i+1) (l++[(ps[i],bs,true)]) w':=by
 refine ⟨?_,λx hx=> ?_,?_,λb aj=> ?_⟩
 ·rw [R6,h.are,Yj hi]
  rfl
 ·rcases PE.1 hx with hx | hx
  ·exact h.all x hx
  rw [Ra.1 hx]
 ·rw [R6,Tu,S7];refine ⟨h.nd,by simpa using hn,λa ha b aj e=> ?_⟩;have h1:=h.lt a ha;have h2:=hb b (by simpa using aj);omega
 rw [R6,Tu] at aj;rcases PE.1 aj with aj | aj
 ·have:=h.lt b aj;omega
 exact (hb b (by simpa using aj)).2
theorem M6 {D:Nat}(IH:∀d,d+1=D->KN d):KN D:=by
 intro ps hD hsz w S ad cap hS hp;have bo:ps.length<=100000:=PZ (Xs ps) hsz;have fp:=cf1 w ps.length bo;have wk:Hid (Pi (Vv D) 50 w.heap.size (λ_=>False) (w.alloc (.cells (madeCells #[.int .i64 0,.string ⟨#[]⟩,.int .i64 0,.slice none 0 0] ((ps.length+2)*4)) 50)) (.slice (some ⟨w.heap.size,0,none⟩) 0 (ps.length+2)) []):=UW (Vv D) 50 w (ps.length+2) _ (by omega);obtain ⟨W,hW⟩:∃W,W=w.alloc (.cells (madeCells #[.int .i64 0,.string ⟨#[]⟩,.int .i64 0,.slice none 0 0] ((ps.length+2)*4)) 50):=⟨_,rfl⟩;have dB:Hid (Below w.heap.size w W):=by rw [hW];exact (Pb _ _).alloc (P6 _) _
 rw [<-hW] at wk fp;clear hW;rw [show ((ps.length+2:Nat):Int)=(ps.length:Int)+2 from by omega] at fp;have HS:=P4 hS;have HP:=P4 hp;clear hS hp;go_enter Tryz.func8,Tryz.ntmps8
 go_upto_region 3 with fail
 clear fp
 go_loopw [3,4] (λov iv wr=>∃(i:Nat) (l:List (Pt×List Nat×Bool)),i<=ps.length/\iv= .int .i64 i/\Hid (Below w.heap.size w wr)/\Hid (Pi (Vv D) 50 w.heap.size (λ_=>False) wr ov l)/\Hid (Twl ps i l wr)) (λ_ iv _=>ps.length-(intOf iv).toNat)
 case atStart=>exact ⟨0,[],by omega,by go_num,dB.out,wk.out,⟨rfl,λx hx=>by simp at hx,by simp,λb hb=>by simp at hb⟩⟩
 obtain ⟨i,l,hi,rfl,HB,HO,HL⟩:=hrel;have HF:Hid (∀y,(λ_:Nat=>False) y->y<w.heap.size):=λ_ h=>h.elim;have hk:=OZ.of HB.out HS.out;have mr:=HL.len hi;by_cases ag:i<ps.length
 ·obtain ⟨g,o,rfl,aM,_,a0,a1,a2,qa,qc,a3,hv⟩:=(HP.on hk).at ag;have hd:ps[i].1<=D:=hD _ (Px ag);have ll:=Pt.dep_pos ps[i];obtain ⟨d,rfl⟩:∃d,D=d+1:=⟨D-1,by omega⟩;have Br:Q6 ps[i].kids<=100000:=by
   have h1:=WQ (Px ag);have h2:=ps[i].sz_eq;omega
  obtain ⟨Fv,Fw,zx,Jh,Ad,Ji⟩:=hv;obtain ⟨rfl,rfl⟩:qa=Fv/\qc=Fw:=by simpa using zx
  have sR:Hid (∀V,Below wr.heap.size wr V->Calls Tryz.prog 8 #[.slice qa ps[i].kids.length qc] V (M7 d ps[i].kids V)):=λV hV=>by
   have hb:=HB.trans (hV.mono HB.size);exact IH d rfl ps[i].kids (λq hq=>by have:=Vp ps[i] q hq;omega) Br V S qa qc (λb aj=>PQ (HS.out b aj) hb.size) (Ji.on (OZ.of hV λb aj=>PQ (HS.out b aj) HB.size))
  have pY:=Qh Jh Ad;obtain ⟨Wp,Cd⟩:∃Wp,Wp=wr.alloc (Obj.cells #[.int .i64 ps[i].kind,.string ⟨ps[i].name.toArray⟩,.int .i64 ps[i].num,.slice qa ps[i].kids.length qc] 50):=⟨_,rfl⟩;have uy:Below wr.heap.size wr Wp:=by rw [Cd];exact (Pb _ _).alloc (P6 _) _
  have A0:Wp.heap[wr.heap.size]? =some (.cells #[.int .i64 ps[i].kind,.string ⟨ps[i].name.toArray⟩,.int .i64 ps[i].num,.slice qa ps[i].kids.length qc] 50 (0,0)):=by rw [Cd];exact PF _ _
  have CT:=sR.out Wp uy;have c3:=P0 (i:=3) A0 rfl;have i1:(0:Int)<=(i:Int):=by omega
  have i2:(i:Int)<(ps.length:Int):=by omega
  have B6:=Qh uy A0;have Jj:Hid (∀(w':World) (bs:List Nat),bs.Nodup->(∀b∈bs,wr.heap.size<=b/\b<w'.heap.size)->wr.heap.size<=w'.heap.size->Twl ps (i+1) (l++[(ps[i],bs,true)]) w'):=λw' bs h1 h2 h3=>HL.put ag h1 h2 h3;clear zx Jh Ad Ji hd ll Br hk uy A0 sR IH hD;generalize ps[i]=p at *
  go_upto_region 6 with fail
  rw [<-Cd];clear Cd a0 a1 a2 a3
  go_upto_region 7 with (first | (go_at_call 8;(with_reducible refine Pe CT ?_);rintro e' w3 ⟨hb3,g3,cap3,bs3,rfl,htw3,hnd3,hlt3⟩;have hp3:=(hb3.block _ (PV B6.2)).trans B6.2;have y3:=P0 (i:=3) hp3 rfl;have z3:=Pp (o:=3) hp3))
  obtain ⟨W4,gM⟩:∃W4,W4=w3.setCell ⟨wr.heap.size,3,none⟩ (.slice (some ⟨g3,0,none⟩) p.kids.length cap3):=⟨_,rfl⟩;have hp4:=Q5 (i:=3) (v:= .slice (some ⟨g3,0,none⟩) p.kids.length cap3) hp3;rw [<-gM] at hp4⊢;have hs4:W4.heap.size=w3.heap.size:=by rw [gM];simp [World.setCell]
  have Jk:∀y,y≠wr.heap.size->W4.heap[y]? =w3.heap[y]? :=λy hy=>by rw [gM];exact PX _ _ _ _ hy
  have B7:Below wr.heap.size wr w3:=B6.1.trans (hb3.mono B6.1.size);have hb4:Below wr.heap.size wr W4:=by rw [gM];exact B7.setCell (p:=⟨wr.heap.size,3,none⟩) (P6 _) _
  have bx2:=PV B6.2;have sW:Hid ((Vv (d+1)).C W4 (RL (λ_=>False) w.heap.size W4 u3) (Ru p (some ⟨g3,0,none⟩) cap3) (p,bs3,true)):=by
   refine ⟨_,_,rfl,pY.1,pY.2,.inl ⟨rfl,Tw.on _ _ _ _ htw3 λb hb=>Jk b (by have:=hlt3 b hb;omega),λb hb=> .inr ⟨?_,?_,λe=> ?_⟩⟩⟩
   ·have:=hlt3 b hb;have:=HB.size;omega
   ·have:=hlt3 b hb;omega
   have:=(HO.lt b e).2;have:=hlt3 b hb;omega
  have cZ:=P4 hb4;have qK:Hid (∀w5:World,W4.heap.size<=w5.heap.size->Twl ps (i+1) (l++[(p,bs3,true)]) w5):=λw5 h5=>Jj.out w5 bs3 hnd3 (λb hb=>⟨by have:=hlt3 b hb;omega,by have:=hlt3 b hb;omega⟩) (by have:=hb4.size;omega);have k0:=P0 (i:=0) hp4 rfl;have k1:=P0 (i:=1) hp4 rfl;have k2:=P0 (i:=2) hp4 rfl;have k3:=P0 (i:=3) hp4 rfl;clear hp3 hp4 hs4 Jk B7 hb4 bx2 hb3 htw3 hnd3 hlt3 y3 z3 gM c3 CT Jj HL
  go_wp2_with (at_builtin;refine Ue (E:=Vv (d+1)) (v:=u3) (w1:=wr) (w2:=W4) (cs:=Ru p (some ⟨g3,0,none⟩) cap3) (p:=(p,bs3,true)) (Tryz.ty31w _) rfl _ _ rfl rfl HO.out HF.out HB.size cZ.out rfl sW.out (P6 _) (by omega) ?_;intro v5 w5 O5 B5 iI)
  exact ⟨⟨i+1,_,ag,by go_num,HB.trans B5,O5,qK.out w5 iI⟩,by simp [intOf];omega⟩
 obtain rfl:i=ps.length:=by omega
 obtain ⟨W4,gM⟩:∃W4,W4=wr.alloc (.cells #[.int .i64 (-9),.string ⟨#[]⟩,.int .i64 0,.slice none 0 0,.int .i64 (-9),.string ⟨#[]⟩,.int .i64 0,.slice none 0 0] 50):=⟨_,rfl⟩;have hb4:Below wr.heap.size wr W4:=by rw [gM];exact (Pb _ _).alloc (P6 _) _
 have hp4:W4.heap[wr.heap.size]? =some (.cells #[.int .i64 (-9),.string ⟨#[]⟩,.int .i64 0,.slice none 0 0,.int .i64 (-9),.string ⟨#[]⟩,.int .i64 0,.slice none 0 0] 50 (0,0)):=by rw [gM];exact PF _ _
 have xA:Hid (PC (Vv D) W4 (λy=>y=wr.heap.size) (RL (λ_=>False) w.heap.size W4 u3) (.slice (some ⟨wr.heap.size,0,none⟩) 2 2) [TZ,TZ]):=by
  refine .inr ⟨wr.heap.size,0,2,rfl,by simp,by simp,λj hj=>⟨rfl,Ru Uh none 0,⟨none,0,?_,?_,?_,.inr ⟨?_,rfl,rfl⟩⟩,λc hc=> ?_⟩⟩
  ·rcases (show j=0\/j=1 by simp at hj;omega) with rfl | rfl<;>rfl
  ·rcases (show j=0\/j=1 by simp at hj;omega) with rfl | rfl<;>exact (show Uh.name.length<140737488355328 by decide)
  ·rcases (show j=0\/j=1 by simp at hj;omega) with rfl | rfl<;>exact (show Uh.kids.length<140737488355328 by decide)
  ·rcases (show j=0\/j=1 by simp at hj;omega) with rfl | rfl<;>rfl
  have hc:c<4:=hc;rcases (show j=0\/j=1 by simp at hj;omega) with rfl | rfl<;>rcases (show c=0\/c=1\/c=2\/c=3 by omega) with rfl | rfl | rfl | rfl<;>exact P0 hp4 rfl
 have cZ:=P4 hb4;clear hb4 hp4 hk
 go_upto_region 9 with (at_builtin;rw [<-gM];refine Yg (E:=Vv D) (Z:=λy=>y=wr.heap.size) (v:=u3) (w1:=wr) (w2:=W4) (Tryz.ty31w _) rfl _ _ rfl rfl HO.out HF.out HB.out.size cZ.out rfl (m:=[TZ,TZ]) xA.out (by simp;omega) ?_;intro v5 w5 O5 B5 iI)
 obtain ⟨g,cp,bs,rfl,h2,lC,hnd,hlt⟩:=Ku O5 HL.all HL.nd;rw [mr,HL.out.are,QM] at lC;rw [mr] at h2⊢;have dj:Hid (M7 D ps w (.returned (.slice (some ⟨g,0,none⟩) ps.length cp)) w5):=⟨HB.trans B5,g,cp,bs,rfl,lC,hnd,hlt⟩;have i3:(ps.length:Int)<=(cp:Int):=by omega
 clear O5 B5 iI lC hnd hlt;go_wp2;go_ret;exact dj.out
theorem MH:∀D,KN D
 | 0=>M6 λd h=>by omega
 | D+1=>M6 λd h=>by
  obtain rfl:d=D:=by omega
  exact MH d
end
theorem Tw.lt {w:World}:∀(d:Nat) (v:Value) (ps:List Pt) (bs:List Nat),Tw w d v ps bs->∀b∈bs,b<w.heap.size
 | 0,_,_,_,h=>h.elim
 | d+1,v,ps,bs,⟨g,cap,cur,aC,h1,h2,h3,h4,h5,h6,h7,h8⟩=>λb hb=>by
  rw [h5] at hb;rcases Qa.1 hb with rfl | hb
  ·exact PV h3
  obtain ⟨lA,aj,hm⟩:=RF.1 hb;obtain ⟨i,hi,rfl⟩:=RO aj;obtain ⟨ad,kc,_,_,_,q⟩:=h8 i (by omega) hi;exact Tw.lt d _ _ _ q b hm
theorem xv1 {w:World}{S:Nat->Prop}{g o cap:Nat}(hg:S g)(hc:2<=cap)(h:∀j,j<2->WJ w g (o+j*4) (Ru Uh none 0)):Pl w S (.slice (some ⟨g,o,none⟩) 2 cap) [Uh,Uh]:=by
 refine .inr ⟨g,o,cap,rfl,by simp,hc,λj hj=> ?_⟩;have hj:j<2:=hj;have he: [Uh,Uh][j]=Uh:=by
  rcases (show j=0\/j=1 by omega) with rfl | rfl<;>rfl
 have q:=h j hj;rw [he];exact RN.mk (ad:=none) (cap:=0) hg (q 0 (by simp [Ru])) (q 1 (by simp [Ru])) (q 2 (by simp [Ru])) (by decide) (by decide) (q 3 (by simp [Ru])) (.inl ⟨rfl,none,0,rfl⟩)
def UX (d:Nat):Prop:=∀(v:Value) (ps:List Pt) (bs:List Nat) (w:World),Tw w d v ps bs->Q6 ps<=100000->Calls Tryz.prog 13 #[v] w λr w'=>r= .returned (.bool true)/\Below w.heap.size w w'
theorem cg1 {d:Nat}(IH:UX d):UX (d+1):=by
 intro v ps bs w h hsz;have bo:ps.length<=100000:=PZ (Xs ps) hsz;obtain ⟨g,cap,cur,aC,rfl,h2,h3,h4,h5,h6,h7,h8⟩:=h;have i0:(ps.length:Int)+2<=(cap:Int):=by omega
 have HG:Hid (∀V,Below w.heap.size w V->V.heap[g]? =w.heap[g]?):=λV hV=>hV.block g (PV h3);have HK:Hid (∀i (hi:i<ps.length),∃ad kc,w.cell? ⟨g,i*4+3,none⟩=some (.slice ad ps[i].kids.length kc)/\∀V,Below w.heap.size w V->Calls Tryz.prog 13 #[.slice ad ps[i].kids.length kc] V λr w'=>r= .returned (.bool true)/\Below V.heap.size V w'):=λi hi=>by
  obtain ⟨ad,kc,q1,q2,q3,q4⟩:=h8 i hi (by omega);refine ⟨ad,kc,?_,λV hV=>IH _ _ _ V (Tw.on _ _ _ _ q4 λb hb=>hV.block b (Tw.lt _ _ _ _ q4 b hb)) ?_⟩
  ·have:=q1 3 (by simp [Ru]);simpa [Ru] using this
  have h1:=WQ (Px hi);have h2:=ps[i].sz_eq;omega
 have bj3:=P4 h7;have Ce:=P4 (PV h3);clear IH h8 h7 h6 h5 h4 h3;go_enter Tryz.func13,Tryz.ntmps13
 go_upto_region 3 with fail
 go_loopw [4] (λiv wr=>∃i:Nat,i<=ps.length/\iv= .int .i64 i/\Hid (Below w.heap.size w wr)) (λiv _=>ps.length-(intOf iv).toNat)
 case atStart=>exact ⟨0,by omega,by go_num,Pb _ _⟩
 obtain ⟨i,hi,rfl,HB⟩:=hrel;by_cases ag:i<ps.length
 ·obtain ⟨ad,kc,q,CM⟩:=HK.out i ag;replace q:=(Qm (HG.out wr HB.out) (i*4+3)).trans q;have ca4:=CM wr HB.out;have i1:(0:Int)<=(i:Int):=by omega
  have i2:(i:Int)<(ps.length:Int):=by omega
  clear CM;generalize ps[i].kids.length=kn at *
  go_wp2_with (first | (go_at_call 13;(with_reducible refine Pe ca4 ?_);rintro e' w3 ⟨rfl,hb3⟩))
  exact ⟨⟨i+1,ag,by go_num,HB.trans (hb3.mono HB.size)⟩,by simp [intOf];omega⟩
 obtain rfl:i=ps.length:=by omega
 obtain ⟨W4,gM⟩:∃W4,W4=wr.alloc (.cells #[.int .i64 (-9),.string ⟨#[]⟩,.int .i64 0,.slice none 0 0,.int .i64 (-9),.string ⟨#[]⟩,.int .i64 0,.slice none 0 0] 50):=⟨_,rfl⟩;have hb4:Below wr.heap.size wr W4:=by rw [gM];exact (Pb _ _).alloc (P6 _) _
 have hp4:W4.heap[wr.heap.size]? =some (.cells #[.int .i64 (-9),.string ⟨#[]⟩,.int .i64 0,.slice none 0 0,.int .i64 (-9),.string ⟨#[]⟩,.int .i64 0,.slice none 0 0] 50 (0,0)):=by rw [gM];exact PF _ _
 have bY:Below w.heap.size w W4:=HB.trans (hb4.mono HB.size);have CS:=Jz 2 (.slice (some ⟨g,ps.length*4,none⟩) 2 (cap-ps.length)) (.slice (some ⟨wr.heap.size,0,none⟩) 2 2) [Uh,Uh] W4 (λy=>y=g\/y=wr.heap.size) (λp hp=>by simp at hp;subst hp;decide) (λb hb=>by
  rcases hb with rfl | rfl
  ·exact PQ Ce.out bY.size
  exact PV hp4) (by simp) (xv1 (.inl rfl) (by omega) λj hj=>by
  have:=(bj3.out j hj).on (bY.block g Ce.out)
  rwa [TM] at this) (xv1 (.inr rfl) (by omega) λj hj c hc=>by
  have hc:c<4:=hc;rcases (show j=0\/j=1 by omega) with rfl | rfl<;>rcases (show c=0\/c=1\/c=2\/c=3 by omega) with rfl | rfl | rfl | rfl<;>exact P0 hp4 rfl)
 have dB:=P4 bY;clear hb4 hp4 bY
 go_wp2_with (first | (go_at_call 12;rw [<-gM];(with_reducible refine Pe CS ?_);rintro e' w5 ⟨rfl,hb5⟩))
 go_ret;exact ⟨rfl,dB.trans (hb5.mono dB.size)⟩
theorem xw1:∀d,UX d
 | 0=>λ_ _ _ _ h _=>h.elim
 | d+1=>cg1 (xw1 d)
section
variable {aC:List (List Nat)}{w:World}{g:Nat}
def SY:Pt:=⟨1,((-7,[115,112,111,105,108,116],0),[])⟩
theorem F6 {o:Nat}{cur:Array Value}(h:w.heap[g]? =some (.cells cur 50 (0,0)))(ho:o+4<=cur.size)(v0 v1 v2 v3:Value):∃U cur',U=(((w.setCell ⟨g,o,none⟩ v0).setCell ⟨g,o+1,none⟩ v1).setCell ⟨g,o+2,none⟩ v2).setCell ⟨g,o+3,none⟩ v3/\U.heap[g]? =some (.cells cur' 50 (0,0))/\cur'.size=cur.size/\WJ U g o [v0,v1,v2,v3]/\(∀p,p<cur.size->(p<o\/o+4<=p)->U.cell? ⟨g,p,none⟩=w.cell? ⟨g,p,none⟩)/\U.heap.size=w.heap.size/\(U.os=w.os/\U.tape=w.tape/\U.output=w.output)/\∀y,y≠g->U.heap[y]? =w.heap[y]? :=by
 have a0:=Q5 (i:=o) (v:=v0) h;have a1:=Q5 (i:=o+1) (v:=v1) a0;have a2:=Q5 (i:=o+2) (v:=v2) a1;have a3:=Q5 (i:=o+3) (v:=v3) a2;refine ⟨_,_,rfl,a3,by simp,λc hc=> ?_,λp hp2 hp=> ?_,by simp [World.setCell],⟨rfl,rfl,rfl⟩,λy hy=> ?_⟩
 ·have hc:c<4:=hc;refine P0 a3 ?_;rcases (show c=0\/c=1\/c=2\/c=3 by omega) with rfl | rfl | rfl | rfl<;>simp [Q9]<;>omega
 ·refine (P0 a3 ?_).trans (P0 h (Rm hp2)).symm;simp [show o≠p by omega,show o+1≠p by omega,show o+2≠p by omega,show o+3≠p by omega,hp2]
 rw [PX _ _ _ _ hy,PX _ _ _ _ hy,PX _ _ _ _ hy,PX _ _ _ _ hy]
structure KxB (bs:List Nat)(w w':World):Prop where
 os:w'.os=w.os
 tape:w'.tape=w.tape
 output:w'.output=w.output
 size:w.heap.size<=w'.heap.size
 block:∀y,y<w.heap.size->y∉bs->w'.heap[y]? =w.heap[y]?
structure Spl (w:World)(g cap:Nat)(aC:List (List Nat))(i:Nat)(wr:World):Prop where
 kx:KxB (g::(aC.take i).flatten) w wr
 blk:∃cur,wr.heap[g]? =some (.cells cur 50 (0,0))/\cur.size=cap*4
 done:∀j,j<i->WJ wr g (j*4) (Ru SY none 0)
 rest:∀o,i*4<=o->o<cap*4->wr.cell? ⟨g,o,none⟩=w.cell? ⟨g,o,none⟩
theorem ch1 (aC:List (List Nat))(i:Nat)(h:i<aC.length):(aC.take (i+1)).flatten=(aC.take i).flatten++aC[i]:=by
 rw [Yj h,Tu];simp
theorem Z1 (h:aC.flatten.Nodup){i:Nat}(hi:i<aC.length){b:Nat}(hb:b∈aC[i]):b∉(aC.take i).flatten:=λhm=>by
 have e:aC.flatten=(aC.take i).flatten++(aC.drop i).flatten:=by rw [<-Tu,Ug]
 rw [e,S7] at h;exact h.2.2 b hm b (RF.2 ⟨aC[i],by rw [Ur hi];exact Op,hb⟩) rfl
theorem VJ (h:aC.flatten.Nodup){i:Nat}(hi:i<aC.length):aC[i].Nodup:=by
 have e:aC.flatten=(aC.take i).flatten++(aC[i]++(aC.drop (i+1)).flatten):=by
  rw [<-U3,<-Ur hi,<-Tu,Ug]
 rw [e,S7,S7] at h;exact h.2.1.1
theorem Spl.put {wr w3:World}{cap:Nat}{i:Nat}(h:Spl w g cap aC i wr)(hg:g<w.heap.size)(hi:i<aC.length)(hc:i<cap)(hn:(g::aC.flatten).Nodup)(hk:KxB aC[i] wr w3):
  ∃cur,w3.heap[g]? =some (.cells cur 50 (0,0))/\cur.size=cap*4/\∃U,U=(((w3.setCell ⟨g,i*4,none⟩ (.int .i64 (-7))).setCell ⟨g,i*4+1,none⟩ (.string ⟨#[115,112,111,105,108,116]⟩)).setCell ⟨g,i*4+2,none⟩ (.int .i64 0)).setCell ⟨g,i*4+3,none⟩ (.slice none 0 0)/\Spl w g cap aC (i+1) U:=by
 rw [U6] at hn;have hsz:=h.kx.size;have GA:g∉aC[i]:=λhm=>hn.1 (RF.2 ⟨_,Px hi,hm⟩);obtain ⟨cur,c1,c2⟩:=h.blk;have FR:=hk.block g (by omega) GA;have c3:=FR.trans c1;obtain ⟨U,cur',u1,u2,u3,u4,u5,u6,u7,u8⟩:=F6 c3 (o:=i*4) (by omega) (.int .i64 (-7)) (.string ⟨#[115,112,111,105,108,116]⟩) (.int .i64 0) (.slice none 0 0);have AY:=hk.size;refine ⟨cur,c3,c2,U,u1,⟨u7.1.trans (hk.os.trans h.kx.os),u7.2.1.trans (hk.tape.trans h.kx.tape),u7.2.2.trans (hk.output.trans h.kx.output),by omega,λy hy am=> ?_⟩,⟨cur',u2,by omega⟩,λj hj=> ?_,λo xk vH=> ?_⟩
 ·rw [ch1 aC i hi] at am;simp only [Qa,PE,not_or] at am;exact (u8 y am.1).trans ((hk.block y (by omega) am.2.2).trans (h.kx.block y hy (by simp only [Qa,not_or];exact ⟨am.1,am.2.1⟩)))
 ·by_cases e:j=i
  ·subst e;exact u4
  intro c di;have jA:c<4:=di;rw [u5 (j*4+c) (by omega) (.inl (by omega)),Qm FR];exact h.done j (by omega) c di
 rw [u5 o (by omega) (.inr (by omega)),Qm FR];exact h.rest o (by omega) vH
def Km (d:Nat):Prop:=∀(v:Value) (ps:List Pt) (bs:List Nat) (w:World),Tw w d v ps bs->bs.Nodup->Q6 ps<=100000->Calls Tryz.prog 16 #[v] w λr w'=>r= .returned (.tuple #[])/\KxB bs w w'/\∀S:Nat->Prop,(∀b∈bs,S b)->Pl w' S v (ps.map λ_=>SY)
theorem cj1 {d:Nat}(IH:Km d):Km (d+1):=by
 intro v ps bs w h hnd hsz;have bo:ps.length<=100000:=PZ (Xs ps) hsz;obtain ⟨g,cap,cur,aC,rfl,h2,h3,h4,rfl,h6,h7,h8⟩:=h;have kK:=P4 hnd;have Ce:=P4 (PV h3);have ib:Hid (Spl w g cap aC 0 w):=⟨⟨rfl,rfl,rfl,P6 _,λ_ _ _=>rfl⟩,⟨cur,h3,h4⟩,λj hj=>absurd hj (WP _),λ_ _ _=>rfl⟩;have HK:Hid (∀i (hi:i<ps.length) (aB:i<aC.length) (wr:World),Spl w g cap aC i wr->∃ad kc,wr.cell? ⟨g,i*4+3,none⟩=some (.slice ad ps[i].kids.length kc)/\Calls Tryz.prog 16 #[.slice ad ps[i].kids.length kc] wr λr w'=>r= .returned (.tuple #[])/\KxB aC[i] wr w'):=λi hi aB wr hs=>by
  obtain ⟨ad,kc,q1,q2,q3,q4⟩:=h8 i hi aB;have rI:=hnd;rw [U6] at rI;refine ⟨ad,kc,?_,(IH _ _ _ wr (Tw.on _ _ _ _ q4 λb hb=>hs.kx.block b (Tw.lt _ _ _ _ q4 b hb) ?_) (VJ rI.2 aB) ?_).mono λr w' h=>⟨h.1,h.2.1⟩⟩
  ·rw [hs.rest _ (by omega) (by omega)];have:=q1 3 (by simp [Ru]);simpa [Ru] using this
  ·simp only [Qa,not_or];exact ⟨λe=>rI.1 (RF.2 ⟨_,Px aB,e▸hb⟩),Z1 rI.2 aB hb⟩
  have h1:=WQ (Px hi);have h2:=ps[i].sz_eq;omega
 have cX:=P4 h6;clear IH h8 h7 h6 h4 h3 hnd;go_enter Tryz.func16,Tryz.ntmps16
 go_upto_region 1 with fail
 go_loopw [2] (λiv wr=>∃i:Nat,i<=ps.length/\iv= .int .i64 i/\Hid (Spl w g cap aC i wr)) (λiv _=>ps.length-(intOf iv).toNat)
 case atStart=>exact ⟨0,by omega,by go_num,ib.out⟩
 obtain ⟨i,hi,rfl,HS⟩:=hrel;by_cases ag:i<ps.length
 ·have lD:i<aC.length:=by have:=cX.out;omega
  obtain ⟨ad,kc,q,CM⟩:=HK.out i ag lD wr HS.out;have i1:(0:Int)<=(i:Int):=by omega
  have i2:(i:Int)<(ps.length:Int):=by omega
  have Ao:Hid (∀w3,KxB aC[i] wr w3->∃cur,w3.heap[g]? =some (.cells cur 50 (0,0))/\cur.size=cap*4/\∃U,U=(((w3.setCell ⟨g,i*4,none⟩ (.int .i64 (-7))).setCell ⟨g,i*4+1,none⟩ (.string ⟨#[115,112,111,105,108,116]⟩)).setCell ⟨g,i*4+2,none⟩ (.int .i64 0)).setCell ⟨g,i*4+3,none⟩ (.slice none 0 0)/\Spl w g cap aC (i+1) U):=λw3 h3=>HS.put Ce.out lD (by omega) kK.out h3;generalize ps[i].kids.length=kn at *
  go_upto_region 4 with (first | (go_at_call 16;(with_reducible refine Pe CM ?_);rintro e' w3 ⟨rfl,hk3⟩))
  obtain ⟨jx,c1,c2,U,hU,Jl⟩:=Ao.out w3 hk3;have vO:=P4 Jl;have y0:=P0 c1 (Rm (i:=i*4) (by omega));have y1:=P0 c1 (Rm (i:=i*4+1) (by omega));have y2:=P0 c1 (Rm (i:=i*4+2) (by omega));have y3:=P0 c1 (Rm (i:=i*4+3) (by omega));have z0:=Pp (o:=i*4) c1;have z1:=Pp (o:=i*4+1) c1;have z2:=Pp (o:=i*4+2) c1;have z3:=Pp (o:=i*4+3) c1;clear Jl hk3 c1 q CM Ao;go_wp2;rw [<-hU];exact ⟨⟨i+1,ag,by go_num,vO.out⟩,by simp [intOf];omega⟩
 obtain rfl:i=ps.length:=by omega
 have dj:Hid (KxB (g::aC.flatten) w wr/\∀S:Nat->Prop,(∀b∈g::aC.flatten,S b)->Pl wr S (.slice (some ⟨g,0,none⟩) ps.length cap) (ps.map λ_=>SY)):=by
  have hs:=HS.out;refine ⟨?_,λS hS=> ?_⟩
  ·have:=hs.kx
   rwa [<-cX.out,QM] at this
  by_cases h0:ps=[]
  ·exact .inl ⟨by rw [h0];rfl,_,cap,by rw [h0];rfl⟩
  refine .inr ⟨g,0,cap,by rw [Qb],by simpa using h0,by rw [Qb];omega,λj hj=> ?_⟩;rw [Qb] at hj;have q:=hs.done j hj;rw [R7,Rp];exact RN.mk (ad:=none) (cap:=0) (hS g (by simp)) (q 0 (by simp [Ru])) (q 1 (by simp [Ru])) (q 2 (by simp [Ru])) (by decide) (by decide) (q 3 (by simp [Ru])) (.inl ⟨rfl,none,0,rfl⟩)
 clear HS;go_wp2;refine Yq (v:= .tuple #[]) (by simp [results,Tryz.results16,go_sem]) rfl ?_;exact ⟨rfl,dj.out⟩
theorem xx1:∀d,Km d
 | 0=>λ_ _ _ _ h _ _=>h.elim
 | d+1=>cj1 (xx1 d)
end
