import Derived.Test.YtpdmkhnonbbhnaaGreatZm
import Derived.Test.YtpdmkhnonbbhnaaGreatZx
namespace Go.Proofs.YtpdmkhnonbbhnaaGreat
open Go.RowKit Go.Maps
set_option maxHeartbeats 16000000
set_option maxRecDepth 10000
section
variable {P B:Nat}{w w':World}{vs:List Value}{ls:List (List Value)}
structure Kv (P:Nat)(vs jX:List Value)(w w':World):Prop where
 os:w'.os=w.os
 tape:w'.tape=w.tape
 output:w'.output=w.output
 size:w.heap.size<=w'.heap.size
 block:∀y,y<w.heap.size->y≠P->(∀v∈vs,v.ownBlock≠some y)->w'.heap[y]? =w.heap[y]?
 new:∀v∈jX,∀y,v.ownBlock=some y->(∃u∈vs,u.ownBlock=some y)\/w.heap.size<=y
theorem Kv.of (h:Below w.heap.size w w'):Kv P vs vs w w':=⟨h.os,h.tape,h.output,h.size,λy hy _ _=>h.block y hy,λv hv _ e=> .inl ⟨v,hv,e⟩⟩
theorem Kv.trans {a b c:List Value}{w1 w2 w3:World}(h:Kv P a b w1 w2)(k:Kv P b c w2 w3):Kv P a c w1 w3:=by
 refine ⟨k.os.trans h.os,k.tape.trans h.tape,k.output.trans h.output,PZ h.size k.size,λy h1 h2 h3=> ?_,λv hv y e=> ?_⟩
 ·refine (k.block y (PQ h1 h.size) h2 λv hv e=> ?_).trans (h.block y h1 h2 h3);rcases h.new v hv y e with ⟨u,hu,e2⟩ | e2
  ·exact h3 u hu e2
  omega
 rcases k.new v hv y e with ⟨u,hu,e2⟩ | e2
 ·exact h.new u hu y e2
 exact .inr (PZ h.size e2)
theorem Pz.lt (h:Pz B P vs ls w):∀v∈vs,∀y,v.ownBlock=some y->B<=y/\y<w.heap.size:=λv hv y e=>by
 obtain ⟨i,hi,rfl⟩:=RO hv;exact (h.own i hi (by rw [h.n',<-h.n];exact hi)).lt y e
theorem Kv.kz {jX:List Value}(h:Kv P vs jX w w')(hp:Pz B P vs ls w)(hB:B<=w.heap.size):Kz B P w w':=⟨h.os,h.tape,h.output,h.size,λy h1 h2=>h.block y (by omega) h2 λv hv e=>by have:=(hp.lt v hv y e).1;omega⟩
theorem Pz.putv (h:Pz B P vs ls w)(j:Nat)(hj:j<vs.length)(aJ:j<ls.length){o:Obj}{g cap:Nat}{w5:World}{x:Value}(hB:B<=w.heap.size)(ho:w5.ownsRow B (L8 j) 1 (.slice (some ⟨g,0,none⟩) (ls[j].length+1) cap) (ls[j].length+1) (ls[j]++[x]))(hg:(w.alloc o).grownBy w5 vs[j].ownBlock)(bL:vs[j].ownBlock=some g\/g=w.heap.size+1):
  w5.heap[P]? =some (.cells vs.toArray 124 (0,0))/\Pz B P (vs.set j (.slice (some ⟨g,0,none⟩) (ls[j].length+1) cap)) (ls.set j (ls[j]++[x])) (w5.setCell ⟨P,j,none⟩ (.slice (some ⟨g,0,none⟩) (ls[j].length+1) cap))/\Kv P vs (vs.set j (.slice (some ⟨g,0,none⟩) (ls[j].length+1) cap)) w (w5.setCell ⟨P,j,none⟩ (.slice (some ⟨g,0,none⟩) (ls[j].length+1) cap)):=by
 obtain ⟨h1,h2,h3⟩:=h.put j hj aJ hB ho hg bL;refine ⟨h1,h2,h3.os,h3.tape,h3.output,h3.size,λy hy am hno=> ?_,λv hv y e=> ?_⟩
 ·rw [PX _ _ _ _ am,hg.block y (by simp;omega) (λe=>hno vs[j] (Px hj) e.symm),Qq _ _ _ hy]
 rcases List.mem_or_eq_of_mem_set hv with hv | rfl
 ·exact .inl ⟨v,hv,e⟩
 have B8:g=y:=by injection e
 rcases bL with e' | e'
 ·exact .inl ⟨vs[j],Px hj,B8▸e'⟩
 exact .inr (by omega)
abbrev Te:=List Value×List Value×List Value
def Qr (G:List Te):List Value:=(G.map (·.1)).flatten
def QD (G:List Te):List Value:=(G.map (·.2.1)).flatten
def QC (G:List Te):List Value:=(G.map (·.2.2)).flatten
theorem LN (G:List Te)(i:Nat)(h:i<G.length):Qr (G.take (i+1))=Qr (G.take i)++G[i].1/\QD (G.take (i+1))=QD (G.take i)++G[i].2.1/\QC (G.take (i+1))=QC (G.take i)++G[i].2.2:=by
 unfold Qr QD QC;rw [Yj h];simp only [R6,Tu,Re,List.map_nil,U3,List.flatten_nil,SH];exact ⟨trivial,trivial,trivial⟩
theorem Ef (G:List Te)(i:Nat)(h:i<G.length):(Qr (G.take i)).length+G[i].1.length<=(Qr G).length/\(QD (G.take i)).length+G[i].2.1.length<=(QD G).length/\(QC (G.take i)).length+G[i].2.2.length<=(QC G).length:=by
 have e:G=G.take (i+1)++G.drop (i+1):=(Ug _ _).symm;have k:=LN G i h;have a:∀X Y:List Te,Qr (X++Y)=Qr X++Qr Y/\QD (X++Y)=QD X++QD Y/\QC (X++Y)=QC X++QC Y:=λX Y=>by unfold Qr QD QC;simp
 obtain ⟨a1,a2,a3⟩:=a (G.take (i+1)) (G.drop (i+1));rw [<-e] at a1 a2 a3;rw [a1,a2,a3,k.1,k.2.1,k.2.2];simp only [QP];omega
def QW (w:World)(S:Nat->Prop):Nat->Value->Te->Prop
 | 0,x,R=>x= .agg #[.int .i64 0,.int .i64 0,.slice none 0 0,.slice none 0 0,.slice none 0 0]/\R=([.slice none 0 0],[.slice none 0 0],[.slice none 0 0])
 | f+1,x,R=>∃(a b:Int) (pa:Option Addr) (pl pc:Nat) (ca:Option Addr) (cc:Nat) (ea:Option Addr) (ec:Nat) (G G':List Te),x= .agg #[.int .i64 a,.int .i64 b,.slice pa pl pc,.slice ca G.length cc,.slice ea G'.length ec]/\R=(.slice pa pl pc::(Qr G++Qr G'),.slice ca G.length cc::(QD G++QD G'),.slice ea G'.length ec::(QC G++QC G'))/\
  (∀i (h:i<G.length),∃g v0 v1 v2 v3 v4,ca=some ⟨g,0,none⟩/\S g/\w.cell? ⟨g,i*7+2,none⟩=some v0/\w.cell? ⟨g,i*7+3,none⟩=some v1/\w.cell? ⟨g,i*7+4,none⟩=some v2/\w.cell? ⟨g,i*7+5,none⟩=some v3/\w.cell? ⟨g,i*7+6,none⟩=some v4/\QW w S f (.agg #[v0,v1,v2,v3,v4]) G[i])/\
  ∀i (h:i<G'.length),∃g v0 v1 v2 v3 v4,ea=some ⟨g,0,none⟩/\S g/\w.cell? ⟨g,i*5,none⟩=some v0/\w.cell? ⟨g,i*5+1,none⟩=some v1/\w.cell? ⟨g,i*5+2,none⟩=some v2/\w.cell? ⟨g,i*5+3,none⟩=some v3/\w.cell? ⟨g,i*5+4,none⟩=some v4/\QW w S f (.agg #[v0,v1,v2,v3,v4]) G'[i]
theorem QW.on {w w':World}{S:Nat->Prop}(hk:∀y,S y->w'.heap[y]? =w.heap[y]?):∀(f:Nat) (x:Value) (R:Te),QW w S f x R->QW w' S f x R
 | 0,_,_,h=>h
 | f+1,x,R,⟨a,b,pa,pl,pc,ca,cc,ea,ec,G,G',h1,h2,h3,h4⟩=>by
  refine ⟨a,b,pa,pl,pc,ca,cc,ea,ec,G,G',h1,h2,λi hi=> ?_,λi hi=> ?_⟩
  ·obtain ⟨g,v0,v1,v2,v3,v4,q1,q2,k0,k1,k2,k3,k4,q⟩:=h3 i hi;have e:=Qm (hk g q2);exact ⟨g,v0,v1,v2,v3,v4,q1,q2,(e _).trans k0,(e _).trans k1,(e _).trans k2,(e _).trans k3,(e _).trans k4,QW.on hk f _ _ q⟩
  obtain ⟨g,v0,v1,v2,v3,v4,q1,q2,k0,k1,k2,k3,k4,q⟩:=h4 i hi;have e:=Qm (hk g q2);exact ⟨g,v0,v1,v2,v3,v4,q1,q2,(e _).trans k0,(e _).trans k1,(e _).trans k2,(e _).trans k3,(e _).trans k4,QW.on hk f _ _ q⟩
theorem Tryz.info26:(Tryz.prog.info? 26).map (λi=>(i.zero,i.size,i.bytes))=some (some (.slice none 0 0),1,24):=by kernel_rfl
theorem Tryz.info27:(Tryz.prog.info? 27).map (λi=>(i.zero,i.size,i.bytes))=some (some (.slice none 0 0),1,24):=by kernel_rfl
theorem Tryz.info28:(Tryz.prog.info? 28).map (λi=>(i.zero,i.size,i.bytes))=some (some (.slice none 0 0),1,24):=by kernel_rfl
def NV (f:Nat):Prop:=∀(x:Value) (R:Te) (w:World) (S:Nat->Prop) (B P:Nat) (a b c e:Value) (la lb lc le:List Value),QW w S f x R->(∀y,S y->y<B/\y≠P)->Pz B P [a,b,c,e] [la,lb,lc,le] w->B<=w.heap.size->la.length+R.1.length<=1000000->lc.length+R.2.1.length<=1000000->le.length+R.2.2.length<=1000000->Calls Tryz.prog 61 #[.pointer (some ⟨P,0,none⟩),x] w λr w'=>r= .returned (.tuple #[])/\∃a' c' e',Kv P [a,b,c,e] [a',b,c',e'] w w'/\Pz B P [a',b,c',e'] [la++R.1,lb,lc++R.2.1,le++R.2.2] w'
theorem Pz.on (h:Pz B P vs ls w)(hb:Below w.heap.size w w'):Pz B P vs ls w':=⟨h.low,h.n,h.n',(hb.block P (PV h.blk)).trans h.blk,λi hi aB=>MC (h.own i hi aB) λy e=>hb.block y ((h.own i hi aB).lt y e).2,h.ap⟩
theorem L2 {ta tb:Int}{pa ca ea:Option Addr}{pl pc cc ec:Nat}{G G':List Te}{S:Nat->Prop}{a b c e:Value}{la lb lc le:List Value}
  (bN:∀i (h:i<G.length),∃g v0 v1 v2 v3 v4,ca=some ⟨g,0,none⟩/\S g/\w.cell? ⟨g,i*7+2,none⟩=some v0/\w.cell? ⟨g,i*7+3,none⟩=some v1/\w.cell? ⟨g,i*7+4,none⟩=some v2/\w.cell? ⟨g,i*7+5,none⟩=some v3/\w.cell? ⟨g,i*7+6,none⟩=some v4/\∃f,QW w S f (.agg #[v0,v1,v2,v3,v4]) G[i]/\NV f)
  (tk:∀i (h:i<G'.length),∃g v0 v1 v2 v3 v4,ea=some ⟨g,0,none⟩/\S g/\w.cell? ⟨g,i*5,none⟩=some v0/\w.cell? ⟨g,i*5+1,none⟩=some v1/\w.cell? ⟨g,i*5+2,none⟩=some v2/\w.cell? ⟨g,i*5+3,none⟩=some v3/\w.cell? ⟨g,i*5+4,none⟩=some v4/\∃f,QW w S f (.agg #[v0,v1,v2,v3,v4]) G'[i]/\NV f)
  (hS:∀y,S y->y<B/\y≠P) (hp:Pz B P [a,b,c,e] [la,lb,lc,le] w) (hB:B<=w.heap.size) (hn:la.length+(1+((Qr G).length+(Qr G').length))<=1000000/\lc.length+(1+((QD G).length+(QD G').length))<=1000000/\le.length+(1+((QC G).length+(QC G').length))<=1000000) (dh:G.length<=1000000/\G'.length<=1000000):
  Calls Tryz.prog 61 #[.pointer (some ⟨P,0,none⟩),.agg #[.int .i64 ta,.int .i64 tb,.slice pa pl pc,.slice ca G.length cc,.slice ea G'.length ec]] w λr w'=>r= .returned (.tuple #[])/\∃a' c' e',Kv P [a,b,c,e] [a',b,c',e'] w w'/\Pz B P [a',b,c',e'] [la++(Value.slice pa pl pc::(Qr G++Qr G')),lb,lc++(Value.slice ca G.length cc::(QD G++QD G')),le++(Value.slice ea G'.length ec::(QC G++QC G'))] w':=by
 obtain ⟨F6S,vq,vr,vt,vu⟩:=info_parts Tryz.info26;obtain ⟨cj2,bz6,bv6,cf4,bl2⟩:=info_parts Tryz.info27;obtain ⟨be6,bq2,bt6,bz3,bf5⟩:=info_parts Tryz.info28;have HS:Hid (∀y,S y->y<B/\y≠P):=hS;have HN:Hid _:=hn;obtain ⟨ak3,lR⟩:=dh;have ap4:la.length<=1000000:=by omega
 have wu:lc.length<=1000000:=by omega
 have fk:le.length<=1000000:=by omega
 have vp:Hid (∀i (h:i<G.length),∃g v0 v1 v2 v3 v4,ca=some ⟨g,0,none⟩/\S g/\w.cell? ⟨g,i*7+2,none⟩=some v0/\w.cell? ⟨g,i*7+3,none⟩=some v1/\w.cell? ⟨g,i*7+4,none⟩=some v2/\w.cell? ⟨g,i*7+5,none⟩=some v3/\w.cell? ⟨g,i*7+6,none⟩=some v4/\∃f,QW w S f (.agg #[v0,v1,v2,v3,v4]) G[i]/\NV f):=bN;have bj5:Hid (∀i (h:i<G'.length),∃g v0 v1 v2 v3 v4,ea=some ⟨g,0,none⟩/\S g/\w.cell? ⟨g,i*5,none⟩=some v0/\w.cell? ⟨g,i*5+1,none⟩=some v1/\w.cell? ⟨g,i*5+2,none⟩=some v2/\w.cell? ⟨g,i*5+3,none⟩=some v3/\w.cell? ⟨g,i*5+4,none⟩=some v4/\∃f,QW w S f (.agg #[v0,v1,v2,v3,v4]) G'[i]/\NV f):=tk;obtain ⟨W,hW⟩:∃W,W=w.alloc (.cells #[.int .i64 ta,.int .i64 tb,.slice pa pl pc,.slice ca G.length cc,.slice ea G'.length ec] 30):=⟨_,rfl⟩;have an:Below w.heap.size w W:=by rw [hW];exact (Pb _ _).alloc (P6 _) _
 have cW:W.heap[w.heap.size]? =some (.cells #[.int .i64 ta,.int .i64 tb,.slice pa pl pc,.slice ca G.length cc,.slice ea G'.length ec] 30 (0,0)):=by rw [hW];exact PF _ _
 have wS:=hp.on an;have dB:Hid (B<=W.heap.size):=PZ hB an.size;have E7:Hid (Kv P [a,b,c,e] [a,b,c,e] w W):=Kv.of an;have qK:Hid (w.heap.size<W.heap.size):=PV cW;have G2:Hid (∀V jX,Kv P [a,b,c,e] jX W V->∀v∈jX,v.ownBlock≠some w.heap.size):=λV jX hV v hv e=>by
  rcases hV.new v hv _ e with ⟨u,hu,e2⟩ | e2
  ·have:=(hp.lt u hu _ e2).2;omega
  have:=PV cW;omega
 have li:Hid (∀V jX,Kv P [a,b,c,e] jX W V->V.cell? ⟨w.heap.size,2,none⟩=some (.slice pa pl pc)/\V.cell? ⟨w.heap.size,3,none⟩=some (.slice ca G.length cc)/\V.cell? ⟨w.heap.size,4,none⟩=some (.slice ea G'.length ec)):=λV jX hV=>by
  have h1:=hV.block w.heap.size (PV cW) (by have:=hp.low;omega) λv hv e=>by have:=(hp.lt v hv _ e).2;omega
  have h2:=h1.trans cW;exact ⟨P0 h2 rfl,P0 h2 rfl,P0 h2 rfl⟩
 have t7:Hid (∀V jX,Kv P [a,b,c,e] jX W V->∀y,S y->V.heap[y]? =w.heap[y]?):=λV jX hV y hy=>by
  have h1:=hS y hy;exact ((hV.kz wS dB.out).block y h1.1 h1.2).trans (an.block y (by omega))
 have eU:Hid (Pz B P [a,b,c,e] [la,lb,lc,le] W):=wS;have fS:Hid (Kv P [a,b,c,e] [a,b,c,e] W W):=Kv.of (Pb _ _);clear bN tk hS hp hn an cW wS hB;go_enter Tryz.func61,Tryz.ntmps61
 go_upto_region 1 with fail
 rw [<-hW];clear hW;replace fS:Hid (Kv P [a,b,c,e] [a,b,c,e] W W.drew):=fS.out.trans (Kv.of ((Pb _ _).drew));replace eU:Hid (Pz B P [a,b,c,e] [la,lb,lc,le] W.drew):=eU.out.on ((Pb _ _).drew);have hown:W.drew.ownsRow B 26 1 a la.length la:=eU.out.own 0 (by simp) (by simp);have aw:(λw':World=>w'.cell? ⟨P,0,none⟩=some a/\w'.cell? ⟨w.heap.size,2,none⟩=some (Value.slice pa pl pc)) W.drew:=⟨P0 eU.out.blk rfl,(li.out W.drew [a,b,c,e] fS.out).1⟩;have bq:∀u∈[Value.slice pa pl pc],u.oneCell'=true:=λu hu=>by rw [Ra.1 hu];rfl
 have tl:B<=W.drew.heap.size:=PZ dB.out fS.out.size;have kL:w.heap.size<W.drew.heap.size:=PQ qK.out fS.out.size;refine ZO (S:=(λw':World=>w'.cell? ⟨P,0,none⟩=some a/\w'.cell? ⟨w.heap.size,2,none⟩=some (Value.slice pa pl pc))) (L:=11) (n:=12) (by kernel_rfl) rfl (by kernel_rfl) ?_;refine Ri (i:=0) (some 6) (v:= .pointer (some ⟨P,0,none⟩)) rfl rfl (by kernel_rfl) (by kernel_rfl) (by kernel_rfl) (by kernel_rfl) (by kernel_rfl) (λ_ _ _ h=>h) (Or.inl ⟨by rfl,?_⟩) aw ?_
 ·intro w' aq;go_simp
 simp only [Act.put,PN,PS,PT];refine Ri (i:=1) (some 7) (v:= .pointer (some ⟨P,0,none⟩)) rfl rfl (by kernel_rfl) (by kernel_rfl) (by kernel_rfl) (by kernel_rfl) (by kernel_rfl) (λ_ _ _ h=>h) (Or.inl ⟨by rfl,?_⟩) aw ?_
 ·intro w' aq;go_simp
 simp only [Act.put,PN,PS,PT];refine Ri (i:=2) (some 8) (v:= .pointer (some ⟨P,0,none⟩)) rfl rfl (by kernel_rfl) (by kernel_rfl) (by kernel_rfl) (by kernel_rfl) (by kernel_rfl) (λ_ _ _ h=>h) (Or.inl ⟨by rfl,?_⟩) aw ?_
 ·intro w' aq;go_simp
 simp only [Act.put,PN,PS,PT];refine Ri (i:=3) (some 9) (v:= .pointer (some ⟨P,0,none⟩)) rfl rfl (by kernel_rfl) (by kernel_rfl) (by kernel_rfl) (by kernel_rfl) (by kernel_rfl) (λ_ _ _ h=>h) (Or.inl ⟨by rfl,?_⟩) aw ?_
 ·intro w' aq;go_simp
 simp only [Act.put,PN,PS,PT];refine Ri (i:=4) (some 10) (v:=a) rfl rfl (by kernel_rfl) (by kernel_rfl) (by kernel_rfl) (by kernel_rfl) (by kernel_rfl) (λ_ _ _ h=>h) (Or.inl ⟨by rfl,?_⟩) aw ?_
 ·intro w' aq;obtain ⟨s0,s1⟩:=aq;go_simp
 simp only [Act.put,PN,PS,PT];refine Ri (i:=5) (some 11) (v:= .pointer (some ⟨w.heap.size,2,none⟩)) rfl rfl (by kernel_rfl) (by kernel_rfl) (by kernel_rfl) (by kernel_rfl) (by kernel_rfl) (λ_ _ _ h=>h) (Or.inl ⟨by rfl,?_⟩) aw ?_
 ·intro w' aq;go_simp
 simp only [Act.put,PN,PS,PT];refine Ri (i:=6) (some 12) (v:=Value.slice pa pl pc) rfl rfl (by kernel_rfl) (by kernel_rfl) (by kernel_rfl) (by kernel_rfl) (by kernel_rfl) (λ_ _ _ h=>h) (Or.inl ⟨by rfl,?_⟩) aw ?_
 ·intro w' aq;obtain ⟨s0,s1⟩:=aq;go_simp
 simp only [Act.put,PN,PS,PT];refine SI (i:=7) (by kernel_rfl) rfl (by kernel_rfl) λK hK=> ?_;go_simp;refine hK.out _ _ (λ_=>⟨((Pb _ _).alloc (P6 _) _ |>.cell (p:=⟨P,0,none⟩) (PV eU.out.blk)).trans aw.1,((Pb _ _).alloc (P6 _) _ |>.cell (p:=⟨w.heap.size,2,none⟩) kL).trans aw.2⟩) ?_;clear hK K;refine SI (i:=8) (by kernel_rfl) rfl (by kernel_rfl) λK hK=> ?_;have gV:(W.alloc (.cells #[Value.slice pa pl pc] 26)).drew.heap.size=W.drew.heap.size+1:=Sb W _;refine step_append_lies _ rfl _ _ 58 rfl B 26 F6S _ 1 24 Tryz.underlying58 vq vr vt vu rfl (by decide) _ _ _ rfl (hown.alloc _) ⟨W.drew.heap.size,0,none⟩ 1 1 [Value.slice pa pl pc] rfl rfl (World.news_of_block (Qn W.drew _)) bq (by omega) (by unfold maxLen;omega) (by omega) (by rw [gV];omega) (W.drew.heap.size+1) gV ?_;intro g1 aL w1 b8 bC cr dr;replace bC:(W.drew.alloc (.cells #[Value.slice pa pl pc] 26)).grownBy w1 a.ownBlock:=bC;replace cr:a.ownBlock=some g1\/g1=W.drew.heap.size+1:=cr;obtain ⟨hblk5,cD,bT⟩:=eU.out.putv 0 (by simp) (by simp) tl b8 bC cr;replace cD:Pz B P [.slice (some ⟨g1,0,none⟩) (la.length+1) aL,b,c,e] [la++[Value.slice pa pl pc],lb,lc,le] (w1.setCell ⟨P,0,none⟩ (.slice (some ⟨g1,0,none⟩) (la.length+1) aL)):=cD;replace bT:Kv P [a,b,c,e] [.slice (some ⟨g1,0,none⟩) (la.length+1) aL,b,c,e] W.drew (w1.setCell ⟨P,0,none⟩ (.slice (some ⟨g1,0,none⟩) (la.length+1) aL)):=bT;have j7:w1.heap[w.heap.size]? =W.drew.heap[w.heap.size]? :=by
  rw [bC.block _ (by rw [Sb];omega) (λhq=>G2.out W.drew [a,b,c,e] fS.out a (by simp) hq.symm),Qq _ _ _ kL]
 have gF:(λw':World=>w'.cell? ⟨P,0,none⟩=some a/\w'.cell? ⟨w.heap.size,2,none⟩=some (Value.slice pa pl pc)) w1:=⟨P0 hblk5 rfl,(Qm j7 2).trans aw.2⟩;have z1:=Pp (o:=0) hblk5;refine hK.out _ _ (λ_=>gF) ?_;clear hK K;simp only [Act.put,PN];refine SI (i:=9) (by kernel_rfl) rfl (by kernel_rfl) λK hK=> ?_;go_simp;refine hK.out _ _ (λ_=>gF) ?_;clear hK K;refine SI (i:=10) (by kernel_rfl) rfl (by kernel_rfl) λK hK=> ?_;go_simp;refine hK.out _ _ (λ_=>gF) ?_;clear hK K;refine SI (i:=11) (by kernel_rfl) rfl (by kernel_rfl) λK hK=> ?_;obtain ⟨y1,_⟩:=gF;go_simp;refine hK.out _ _ (λh=>absurd rfl h) ?_;clear hK K;refine Yn (by kernel_rfl) ?_ _;obtain ⟨W1,pi⟩:∃W1,W1=w1.setCell ⟨P,0,none⟩ (.slice (some ⟨g1,0,none⟩) (la.length+1) aL):=⟨_,rfl⟩;rw [<-pi] at cD bT;replace eU:Hid (Pz B P [.slice (some ⟨g1,0,none⟩) (la.length+1) aL,b,c,e] [la++[Value.slice pa pl pc],lb,lc,le] W1):=cD;replace fS:Hid (Kv P [a,b,c,e] [.slice (some ⟨g1,0,none⟩) (la.length+1) aL,b,c,e] W W1):=fS.out.trans bT;rw [<-pi];clear cD bT pi hown b8 bC cr dr hblk5 y1 z1 bq aw tl kL j7 gV
 go_upto_region 2 with fail
 replace fS:Hid (Kv P [a,b,c,e] [.slice (some ⟨g1,0,none⟩) (la.length+1) aL,b,c,e] W W1.drew):=fS.out.trans (Kv.of ((Pb _ _).drew));replace eU:Hid (Pz B P [.slice (some ⟨g1,0,none⟩) (la.length+1) aL,b,c,e] [la++[Value.slice pa pl pc],lb,lc,le] W1.drew):=eU.out.on ((Pb _ _).drew);have hown:W1.drew.ownsRow B 27 1 c lc.length lc:=eU.out.own 2 (by simp) (by simp);have aw:(λw':World=>w'.cell? ⟨P,2,none⟩=some c/\w'.cell? ⟨w.heap.size,3,none⟩=some (Value.slice ca G.length cc)) W1.drew:=⟨P0 eU.out.blk rfl,(li.out W1.drew [.slice (some ⟨g1,0,none⟩) (la.length+1) aL,b,c,e] fS.out).2.1⟩;have bq:∀u∈[Value.slice ca G.length cc],u.oneCell'=true:=λu hu=>by rw [Ra.1 hu];rfl
 have tl:B<=W1.drew.heap.size:=PZ dB.out fS.out.size;have kL:w.heap.size<W1.drew.heap.size:=PQ qK.out fS.out.size;refine ZO (S:=(λw':World=>w'.cell? ⟨P,2,none⟩=some c/\w'.cell? ⟨w.heap.size,3,none⟩=some (Value.slice ca G.length cc))) (L:=11) (n:=12) (by kernel_rfl) rfl (by kernel_rfl) ?_;refine Ri (i:=0) (some 17) (v:= .pointer (some ⟨P,0,none⟩)) rfl rfl (by kernel_rfl) (by kernel_rfl) (by kernel_rfl) (by kernel_rfl) (by kernel_rfl) (λ_ _ _ h=>h) (Or.inl ⟨by rfl,?_⟩) aw ?_
 ·intro w' aq;go_simp
 simp only [Act.put,PN,PS,PT];refine Ri (i:=1) (some 18) (v:= .pointer (some ⟨P,0,none⟩)) rfl rfl (by kernel_rfl) (by kernel_rfl) (by kernel_rfl) (by kernel_rfl) (by kernel_rfl) (λ_ _ _ h=>h) (Or.inl ⟨by rfl,?_⟩) aw ?_
 ·intro w' aq;go_simp
 simp only [Act.put,PN,PS,PT];refine Ri (i:=2) (some 19) (v:= .pointer (some ⟨P,0,none⟩)) rfl rfl (by kernel_rfl) (by kernel_rfl) (by kernel_rfl) (by kernel_rfl) (by kernel_rfl) (λ_ _ _ h=>h) (Or.inl ⟨by rfl,?_⟩) aw ?_
 ·intro w' aq;go_simp
 simp only [Act.put,PN,PS,PT];refine Ri (i:=3) (some 20) (v:= .pointer (some ⟨P,2,none⟩)) rfl rfl (by kernel_rfl) (by kernel_rfl) (by kernel_rfl) (by kernel_rfl) (by kernel_rfl) (λ_ _ _ h=>h) (Or.inl ⟨by rfl,?_⟩) aw ?_
 ·intro w' aq;go_simp
 simp only [Act.put,PN,PS,PT];refine Ri (i:=4) (some 21) (v:=c) rfl rfl (by kernel_rfl) (by kernel_rfl) (by kernel_rfl) (by kernel_rfl) (by kernel_rfl) (λ_ _ _ h=>h) (Or.inl ⟨by rfl,?_⟩) aw ?_
 ·intro w' aq;obtain ⟨s0,s1⟩:=aq;go_simp
 simp only [Act.put,PN,PS,PT];refine Ri (i:=5) (some 22) (v:= .pointer (some ⟨w.heap.size,3,none⟩)) rfl rfl (by kernel_rfl) (by kernel_rfl) (by kernel_rfl) (by kernel_rfl) (by kernel_rfl) (λ_ _ _ h=>h) (Or.inl ⟨by rfl,?_⟩) aw ?_
 ·intro w' aq;go_simp
 simp only [Act.put,PN,PS,PT];refine Ri (i:=6) (some 23) (v:=Value.slice ca G.length cc) rfl rfl (by kernel_rfl) (by kernel_rfl) (by kernel_rfl) (by kernel_rfl) (by kernel_rfl) (λ_ _ _ h=>h) (Or.inl ⟨by rfl,?_⟩) aw ?_
 ·intro w' aq;obtain ⟨s0,s1⟩:=aq;go_simp
 simp only [Act.put,PN,PS,PT];refine SI (i:=7) (by kernel_rfl) rfl (by kernel_rfl) λK hK=> ?_;go_simp;refine hK.out _ _ (λ_=>⟨((Pb _ _).alloc (P6 _) _ |>.cell (p:=⟨P,2,none⟩) (PV eU.out.blk)).trans aw.1,((Pb _ _).alloc (P6 _) _ |>.cell (p:=⟨w.heap.size,3,none⟩) kL).trans aw.2⟩) ?_;clear hK K;refine SI (i:=8) (by kernel_rfl) rfl (by kernel_rfl) λK hK=> ?_;have gV:(W1.alloc (.cells #[Value.slice ca G.length cc] 27)).drew.heap.size=W1.drew.heap.size+1:=Sb W1 _;refine step_append_lies _ rfl _ _ 121 rfl B 27 cj2 _ 1 24 Tryz.underlying121 bz6 bv6 cf4 bl2 rfl (by decide) _ _ _ rfl (hown.alloc _) ⟨W1.drew.heap.size,0,none⟩ 1 1 [Value.slice ca G.length cc] rfl rfl (World.news_of_block (Qn W1.drew _)) bq (by omega) (by unfold maxLen;omega) (by omega) (by rw [gV];omega) (W1.drew.heap.size+1) gV ?_;intro g2 cap2 w2 b8 bC cr dr;replace bC:(W1.drew.alloc (.cells #[Value.slice ca G.length cc] 27)).grownBy w2 c.ownBlock:=bC;replace cr:c.ownBlock=some g2\/g2=W1.drew.heap.size+1:=cr;obtain ⟨hblk5,cD,bT⟩:=eU.out.putv 2 (by simp) (by simp) tl b8 bC cr;replace cD:Pz B P [.slice (some ⟨g1,0,none⟩) (la.length+1) aL,b,.slice (some ⟨g2,0,none⟩) (lc.length+1) cap2,e] [la++[Value.slice pa pl pc],lb,lc++[Value.slice ca G.length cc],le] (w2.setCell ⟨P,2,none⟩ (.slice (some ⟨g2,0,none⟩) (lc.length+1) cap2)):=cD;replace bT:Kv P [.slice (some ⟨g1,0,none⟩) (la.length+1) aL,b,c,e] [.slice (some ⟨g1,0,none⟩) (la.length+1) aL,b,.slice (some ⟨g2,0,none⟩) (lc.length+1) cap2,e] W1.drew (w2.setCell ⟨P,2,none⟩ (.slice (some ⟨g2,0,none⟩) (lc.length+1) cap2)):=bT;have j7:w2.heap[w.heap.size]? =W1.drew.heap[w.heap.size]? :=by
  rw [bC.block _ (by rw [Sb];omega) (λhq=>G2.out W1.drew [.slice (some ⟨g1,0,none⟩) (la.length+1) aL,b,c,e] fS.out c (by simp) hq.symm),Qq _ _ _ kL]
 have gF:(λw':World=>w'.cell? ⟨P,2,none⟩=some c/\w'.cell? ⟨w.heap.size,3,none⟩=some (Value.slice ca G.length cc)) w2:=⟨P0 hblk5 rfl,(Qm j7 3).trans aw.2⟩;have z1:=Pp (o:=2) hblk5;refine hK.out _ _ (λ_=>gF) ?_;clear hK K;simp only [Act.put,PN];refine SI (i:=9) (by kernel_rfl) rfl (by kernel_rfl) λK hK=> ?_;go_simp;refine hK.out _ _ (λ_=>gF) ?_;clear hK K;refine SI (i:=10) (by kernel_rfl) rfl (by kernel_rfl) λK hK=> ?_;go_simp;refine hK.out _ _ (λ_=>gF) ?_;clear hK K;refine SI (i:=11) (by kernel_rfl) rfl (by kernel_rfl) λK hK=> ?_;obtain ⟨y1,_⟩:=gF;go_simp;refine hK.out _ _ (λh=>absurd rfl h) ?_;clear hK K;refine Yn (by kernel_rfl) ?_ _;obtain ⟨W2,pi⟩:∃W2,W2=w2.setCell ⟨P,2,none⟩ (.slice (some ⟨g2,0,none⟩) (lc.length+1) cap2):=⟨_,rfl⟩;rw [<-pi] at cD bT;replace eU:Hid (Pz B P [.slice (some ⟨g1,0,none⟩) (la.length+1) aL,b,.slice (some ⟨g2,0,none⟩) (lc.length+1) cap2,e] [la++[Value.slice pa pl pc],lb,lc++[Value.slice ca G.length cc],le] W2):=cD;replace fS:Hid (Kv P [a,b,c,e] [.slice (some ⟨g1,0,none⟩) (la.length+1) aL,b,.slice (some ⟨g2,0,none⟩) (lc.length+1) cap2,e] W W2):=fS.out.trans bT;rw [<-pi];clear cD bT pi hown b8 bC cr dr hblk5 y1 z1 bq aw tl kL j7 gV
 go_upto_region 3 with fail
 replace fS:Hid (Kv P [a,b,c,e] [.slice (some ⟨g1,0,none⟩) (la.length+1) aL,b,.slice (some ⟨g2,0,none⟩) (lc.length+1) cap2,e] W W2.drew):=fS.out.trans (Kv.of ((Pb _ _).drew));replace eU:Hid (Pz B P [.slice (some ⟨g1,0,none⟩) (la.length+1) aL,b,.slice (some ⟨g2,0,none⟩) (lc.length+1) cap2,e] [la++[Value.slice pa pl pc],lb,lc++[Value.slice ca G.length cc],le] W2.drew):=eU.out.on ((Pb _ _).drew);have hown:W2.drew.ownsRow B 28 1 e le.length le:=eU.out.own 3 (by simp) (by simp);have aw:(λw':World=>w'.cell? ⟨P,3,none⟩=some e/\w'.cell? ⟨w.heap.size,4,none⟩=some (Value.slice ea G'.length ec)) W2.drew:=⟨P0 eU.out.blk rfl,(li.out W2.drew [.slice (some ⟨g1,0,none⟩) (la.length+1) aL,b,.slice (some ⟨g2,0,none⟩) (lc.length+1) cap2,e] fS.out).2.2⟩;have bq:∀u∈[Value.slice ea G'.length ec],u.oneCell'=true:=λu hu=>by rw [Ra.1 hu];rfl
 have tl:B<=W2.drew.heap.size:=PZ dB.out fS.out.size;have kL:w.heap.size<W2.drew.heap.size:=PQ qK.out fS.out.size;refine ZO (S:=(λw':World=>w'.cell? ⟨P,3,none⟩=some e/\w'.cell? ⟨w.heap.size,4,none⟩=some (Value.slice ea G'.length ec))) (L:=11) (n:=12) (by kernel_rfl) rfl (by kernel_rfl) ?_;refine Ri (i:=0) (some 28) (v:= .pointer (some ⟨P,0,none⟩)) rfl rfl (by kernel_rfl) (by kernel_rfl) (by kernel_rfl) (by kernel_rfl) (by kernel_rfl) (λ_ _ _ h=>h) (Or.inl ⟨by rfl,?_⟩) aw ?_
 ·intro w' aq;go_simp
 simp only [Act.put,PN,PS,PT];refine Ri (i:=1) (some 29) (v:= .pointer (some ⟨P,0,none⟩)) rfl rfl (by kernel_rfl) (by kernel_rfl) (by kernel_rfl) (by kernel_rfl) (by kernel_rfl) (λ_ _ _ h=>h) (Or.inl ⟨by rfl,?_⟩) aw ?_
 ·intro w' aq;go_simp
 simp only [Act.put,PN,PS,PT];refine Ri (i:=2) (some 30) (v:= .pointer (some ⟨P,0,none⟩)) rfl rfl (by kernel_rfl) (by kernel_rfl) (by kernel_rfl) (by kernel_rfl) (by kernel_rfl) (λ_ _ _ h=>h) (Or.inl ⟨by rfl,?_⟩) aw ?_
 ·intro w' aq;go_simp
 simp only [Act.put,PN,PS,PT];refine Ri (i:=3) (some 31) (v:= .pointer (some ⟨P,3,none⟩)) rfl rfl (by kernel_rfl) (by kernel_rfl) (by kernel_rfl) (by kernel_rfl) (by kernel_rfl) (λ_ _ _ h=>h) (Or.inl ⟨by rfl,?_⟩) aw ?_
 ·intro w' aq;go_simp
 simp only [Act.put,PN,PS,PT];refine Ri (i:=4) (some 32) (v:=e) rfl rfl (by kernel_rfl) (by kernel_rfl) (by kernel_rfl) (by kernel_rfl) (by kernel_rfl) (λ_ _ _ h=>h) (Or.inl ⟨by rfl,?_⟩) aw ?_
 ·intro w' aq;obtain ⟨s0,s1⟩:=aq;go_simp
 simp only [Act.put,PN,PS,PT];refine Ri (i:=5) (some 33) (v:= .pointer (some ⟨w.heap.size,4,none⟩)) rfl rfl (by kernel_rfl) (by kernel_rfl) (by kernel_rfl) (by kernel_rfl) (by kernel_rfl) (λ_ _ _ h=>h) (Or.inl ⟨by rfl,?_⟩) aw ?_
 ·intro w' aq;go_simp
 simp only [Act.put,PN,PS,PT];refine Ri (i:=6) (some 34) (v:=Value.slice ea G'.length ec) rfl rfl (by kernel_rfl) (by kernel_rfl) (by kernel_rfl) (by kernel_rfl) (by kernel_rfl) (λ_ _ _ h=>h) (Or.inl ⟨by rfl,?_⟩) aw ?_
 ·intro w' aq;obtain ⟨s0,s1⟩:=aq;go_simp
 simp only [Act.put,PN,PS,PT];refine SI (i:=7) (by kernel_rfl) rfl (by kernel_rfl) λK hK=> ?_;go_simp;refine hK.out _ _ (λ_=>⟨((Pb _ _).alloc (P6 _) _ |>.cell (p:=⟨P,3,none⟩) (PV eU.out.blk)).trans aw.1,((Pb _ _).alloc (P6 _) _ |>.cell (p:=⟨w.heap.size,4,none⟩) kL).trans aw.2⟩) ?_;clear hK K;refine SI (i:=8) (by kernel_rfl) rfl (by kernel_rfl) λK hK=> ?_;have gV:(W2.alloc (.cells #[Value.slice ea G'.length ec] 28)).drew.heap.size=W2.drew.heap.size+1:=Sb W2 _;refine step_append_lies _ rfl _ _ 122 rfl B 28 be6 _ 1 24 Tryz.underlying122 bq2 bt6 bz3 bf5 rfl (by decide) _ _ _ rfl (hown.alloc _) ⟨W2.drew.heap.size,0,none⟩ 1 1 [Value.slice ea G'.length ec] rfl rfl (World.news_of_block (Qn W2.drew _)) bq (by omega) (by unfold maxLen;omega) (by omega) (by rw [gV];omega) (W2.drew.heap.size+1) gV ?_;intro g3 cap3 w3 b8 bC cr dr;replace bC:(W2.drew.alloc (.cells #[Value.slice ea G'.length ec] 28)).grownBy w3 e.ownBlock:=bC;replace cr:e.ownBlock=some g3\/g3=W2.drew.heap.size+1:=cr;obtain ⟨hblk5,cD,bT⟩:=eU.out.putv 3 (by simp) (by simp) tl b8 bC cr;replace cD:Pz B P [.slice (some ⟨g1,0,none⟩) (la.length+1) aL,b,.slice (some ⟨g2,0,none⟩) (lc.length+1) cap2,.slice (some ⟨g3,0,none⟩) (le.length+1) cap3] [la++[Value.slice pa pl pc],lb,lc++[Value.slice ca G.length cc],le++[Value.slice ea G'.length ec]] (w3.setCell ⟨P,3,none⟩ (.slice (some ⟨g3,0,none⟩) (le.length+1) cap3)):=cD;replace bT:Kv P [.slice (some ⟨g1,0,none⟩) (la.length+1) aL,b,.slice (some ⟨g2,0,none⟩) (lc.length+1) cap2,e] [.slice (some ⟨g1,0,none⟩) (la.length+1) aL,b,.slice (some ⟨g2,0,none⟩) (lc.length+1) cap2,.slice (some ⟨g3,0,none⟩) (le.length+1) cap3] W2.drew (w3.setCell ⟨P,3,none⟩ (.slice (some ⟨g3,0,none⟩) (le.length+1) cap3)):=bT;have j7:w3.heap[w.heap.size]? =W2.drew.heap[w.heap.size]? :=by
  rw [bC.block _ (by rw [Sb];omega) (λhq=>G2.out W2.drew [.slice (some ⟨g1,0,none⟩) (la.length+1) aL,b,.slice (some ⟨g2,0,none⟩) (lc.length+1) cap2,e] fS.out e (by simp) hq.symm),Qq _ _ _ kL]
 have gF:(λw':World=>w'.cell? ⟨P,3,none⟩=some e/\w'.cell? ⟨w.heap.size,4,none⟩=some (Value.slice ea G'.length ec)) w3:=⟨P0 hblk5 rfl,(Qm j7 4).trans aw.2⟩;have z1:=Pp (o:=3) hblk5;refine hK.out _ _ (λ_=>gF) ?_;clear hK K;simp only [Act.put,PN];refine SI (i:=9) (by kernel_rfl) rfl (by kernel_rfl) λK hK=> ?_;go_simp;refine hK.out _ _ (λ_=>gF) ?_;clear hK K;refine SI (i:=10) (by kernel_rfl) rfl (by kernel_rfl) λK hK=> ?_;go_simp;refine hK.out _ _ (λ_=>gF) ?_;clear hK K;refine SI (i:=11) (by kernel_rfl) rfl (by kernel_rfl) λK hK=> ?_;obtain ⟨y1,_⟩:=gF;go_simp;refine hK.out _ _ (λh=>absurd rfl h) ?_;clear hK K;refine Yn (by kernel_rfl) ?_ _;obtain ⟨W3,pi⟩:∃W3,W3=w3.setCell ⟨P,3,none⟩ (.slice (some ⟨g3,0,none⟩) (le.length+1) cap3):=⟨_,rfl⟩;rw [<-pi] at cD bT;replace eU:Hid (Pz B P [.slice (some ⟨g1,0,none⟩) (la.length+1) aL,b,.slice (some ⟨g2,0,none⟩) (lc.length+1) cap2,.slice (some ⟨g3,0,none⟩) (le.length+1) cap3] [la++[Value.slice pa pl pc],lb,lc++[Value.slice ca G.length cc],le++[Value.slice ea G'.length ec]] W3):=cD;replace fS:Hid (Kv P [a,b,c,e] [.slice (some ⟨g1,0,none⟩) (la.length+1) aL,b,.slice (some ⟨g2,0,none⟩) (lc.length+1) cap2,.slice (some ⟨g3,0,none⟩) (le.length+1) cap3] W W3):=fS.out.trans bT;rw [<-pi];clear cD bT pi hown b8 bC cr dr hblk5 y1 z1 bq aw tl kL j7 gV
 go_upto_region 5 with fail
 go_loopw [4] (λiv wr=>∃(i:Nat) (a' c' e':Value),i<=G.length/\iv= .int .i64 i/\Hid (Kv P [a,b,c,e] [a',b,c',e'] W wr)/\Hid (Pz B P [a',b,c',e'] [la++(Value.slice pa pl pc::Qr (G.take i)),lb,lc++(Value.slice ca G.length cc::QD (G.take i)),le++(Value.slice ea G'.length ec::QC (G.take i))] wr)) (λiv _=>G.length-(intOf iv).toNat)
 case atStart=>exact ⟨0,_,_,_,by omega,by go_num,fS.out,eU.out⟩
 obtain ⟨i,a',c',e',hi,rfl,HK,HZ⟩:=hrel;obtain ⟨t2,t3,t4⟩:=li.out wr _ HK.out;by_cases ag:i<G.length
 ·obtain ⟨g,v0,v1,v2,v3,v4,rfl,hg,k0,k1,k2,k3,k4,f,iN,fF⟩:=vp.out i ag;have fh:=t7.out wr _ HK.out;have mo:=Qm (fh g hg);replace k0:=(mo _).trans k0;replace k1:=(mo _).trans k1;replace k2:=(mo _).trans k2;replace k3:=(mo _).trans k3;replace k4:=(mo _).trans k4;obtain ⟨f1,f2,f3⟩:=Ef G i ag;have CR:=fF _ G[i] wr S B P a' b c' e' _ lb _ _ (QW.on fh f _ _ iN) HS.out HZ.out (PZ dB.out HK.out.size) (by have:=HN.out;simp only [QP,Rj];omega) (by have:=HN.out;simp only [QP,Rj];omega) (by have:=HN.out;simp only [QP,Rj];omega);have i1:(0:Int)<=(i:Int):=by omega
  have i2:(i:Int)<(G.length:Int):=by omega
  have pf:Hid _:=LN G i ag;clear iN fF fh f1 f2 f3 mo
  go_wp2_with (first | (go_at_call 61;(with_reducible refine Pe CR ?_);rintro e' w7 ⟨rfl,a7,c7,e7,hk7,hz7⟩))
  refine ⟨⟨i+1,a7,c7,e7,ag,by go_num,HK.out.trans hk7,?_⟩,by simp [intOf];omega⟩;show Pz _ _ _ _ _;rw [pf.out.1,pf.out.2.1,pf.out.2.2];simp only [T5,TY] at hz7⊢;exact hz7
 obtain rfl:i=G.length:=by omega
 rw [QM] at HZ
 go_upto_region 9 with fail
 generalize bm4:wr=w8 at *
 clear bm4 t2 t3 t4
 go_loopw [5] (λiv wr=>∃(i:Nat) (a' c' e':Value),i<=G'.length/\iv= .int .i64 i/\Hid (Kv P [a,b,c,e] [a',b,c',e'] W wr)/\Hid (Pz B P [a',b,c',e'] [la++(Value.slice pa pl pc::(Qr G++Qr (G'.take i))),lb,lc++(Value.slice ca G.length cc::(QD G++QD (G'.take i))),le++(Value.slice ea G'.length ec::(QC G++QC (G'.take i)))] wr)) (λiv _=>G'.length-(intOf iv).toNat)
 case atStart=>exact ⟨0,_,_,_,by omega,by go_num,HK.out,by
  show Pz _ _ _ _ _;have:=HZ.out;simpa [Qr,QD,QC] using this⟩
 obtain ⟨i,a',c',e',hi,rfl,HK,HZ⟩:=hrel;obtain ⟨t2,t3,t4⟩:=li.out wr _ HK.out;by_cases ag:i<G'.length
 ·obtain ⟨g,v0,v1,v2,v3,v4,rfl,hg,k0,k1,k2,k3,k4,f,iN,fF⟩:=bj5.out i ag;have fh:=t7.out wr _ HK.out;have mo:=Qm (fh g hg);replace k0:=(mo _).trans k0;replace k1:=(mo _).trans k1;replace k2:=(mo _).trans k2;replace k3:=(mo _).trans k3;replace k4:=(mo _).trans k4;obtain ⟨f1,f2,f3⟩:=Ef G' i ag;have CR:=fF _ G'[i] wr S B P a' b c' e' _ lb _ _ (QW.on fh f _ _ iN) HS.out HZ.out (PZ dB.out HK.out.size) (by have:=HN.out;simp only [QP,Rj];omega) (by have:=HN.out;simp only [QP,Rj];omega) (by have:=HN.out;simp only [QP,Rj];omega);have i1:(0:Int)<=(i:Int):=by omega
  have i2:(i:Int)<(G'.length:Int):=by omega
  have pf:Hid _:=LN G' i ag;clear iN fF fh f1 f2 f3 mo
  go_wp2_with (first | (go_at_call 61;(with_reducible refine Pe CR ?_);rintro e' w7 ⟨rfl,a7,c7,e7,hk7,hz7⟩))
  refine ⟨⟨i+1,a7,c7,e7,ag,by go_num,HK.out.trans hk7,?_⟩,by simp [intOf];omega⟩;show Pz _ _ _ _ _;rw [pf.out.1,pf.out.2.1,pf.out.2.2];simp only [T5,TY] at hz7⊢;exact hz7
 obtain rfl:i=G'.length:=by omega
 rw [QM] at HZ;have dj:Hid (∃a' c' e',Kv P [a,b,c,e] [a',b,c',e'] w wr/\Pz B P [a',b,c',e'] [la++(Value.slice pa pl pc::(Qr G++Qr G')),lb,lc++(Value.slice ca G.length cc::(QD G++QD G')),le++(Value.slice ea G'.length ec::(QC G++QC G'))] wr):=⟨a',c',e',E7.out.trans HK.out,HZ.out⟩;clear HK HZ;go_wp2;refine Yq (v:= .tuple #[]) (by simp [results,Tryz.results61,go_sem]) rfl ?_;exact ⟨rfl,dj.out⟩
theorem QW.one {w:World}{S:Nat->Prop}:∀(f:Nat) (x:Value) (R:Te),QW w S f x R->1<=R.1.length
 | 0,_,_,⟨_,h⟩=>by rw [h];simp
 | _+1,_,_,⟨_,_,_,_,_,_,_,_,_,_,_,_,h,_⟩=>by rw [h];simp
theorem Lz:∀(G:List Te),(∀x∈G,1<=x.1.length)->G.length<=(Qr G).length
 | [],_=>by simp
 | a::G,h=>by
  have h1:=Lz G λx hx=>h x (by simp [hx]);have h2:=h a (by simp);have e:Qr (a::G)=a.1++Qr G:=by unfold Qr;simp
  rw [e,QP,Rj];omega
theorem JK:∀f,NV f
 | 0=>λx R w S B P a b c e la lb lc le h hS hp hB h1 h2 h3=>by
  obtain ⟨rfl,rfl⟩:=h;exact L2 (G:=[]) (G':=[]) (λi h=>by simp at h) (λi h=>by simp at h) hS hp hB ⟨by simpa [Qr] using h1,by simpa [QD] using h2,by simpa [QC] using h3⟩ ⟨by simp,by simp⟩
 | f+1=>λx R w S B P a b c e la lb lc le h hS hp hB h1 h2 h3=>by
  obtain ⟨ta,tb,pa,pl,pc,ca,cc,ea,ec,G,G',rfl,rfl,q3,q4⟩:=h;simp only [Rj,QP] at h1 h2 h3;have k1:=Lz G λx hx=>by
   obtain ⟨i,hi,rfl⟩:=RO hx;obtain ⟨_,_,_,_,_,_,_,_,_,_,_,_,_,q⟩:=q3 i hi;exact q.one
  have k2:=Lz G' λx hx=>by
   obtain ⟨i,hi,rfl⟩:=RO hx;obtain ⟨_,_,_,_,_,_,_,_,_,_,_,_,_,q⟩:=q4 i hi;exact q.one
  refine L2 (λi hi=> ?_) (λi hi=> ?_) hS hp hB ⟨by omega,by omega,by omega⟩ ⟨by omega,by omega⟩
  ·obtain ⟨g,v0,v1,v2,v3,v4,q1,q2,k0,k1,k2,k3,k4,q⟩:=q3 i hi;exact ⟨g,v0,v1,v2,v3,v4,q1,q2,k0,k1,k2,k3,k4,f,q,JK f⟩
  obtain ⟨g,v0,v1,v2,v3,v4,q1,q2,k0,k1,k2,k3,k4,q⟩:=q4 i hi;exact ⟨g,v0,v1,v2,v3,v4,q1,q2,k0,k1,k2,k3,k4,f,q,JK f⟩
end
section
variable {w:World}
abbrev QS:Value:= .slice none 0 0
theorem Pz.start {P:Nat}(hw:w.heap[P]? =some (.cells #[QS,QS,QS,QS] 124 (0,0))):Pz (P+1) P [QS,QS,QS,QS] [[],[],[],[]] w:=by
 have hv:∀i (h:i<[QS,QS,QS,QS].length),[QS,QS,QS,QS][i]=QS:=λi h=>by
  have h:i<4:=h;rcases (show i=0\/i=1\/i=2\/i=3 by omega) with rfl | rfl | rfl | rfl<;>rfl
 have hl:∀i (h:i<[([]:List Value),[],[],[]].length),[([]:List Value),[],[],[]][i]=[]:=λi h=>by
  have h:i<4:=h;rcases (show i=0\/i=1\/i=2\/i=3 by omega) with rfl | rfl | rfl | rfl<;>rfl
 refine ⟨by omega,rfl,rfl,hw,λi hi aB=> ?_,λi j hi hj _ y e=> ?_⟩
 ·rw [hv i hi,hl i aB];exact U4 _ _ _ _
 rw [hv i hi] at e;cases e
def V8 (w:World)(R:Te)(L:List Value)(idle:Value)(r:Ending)(w':World):Prop:=Below w.heap.size w w'/\r= .returned (.pointer (some ⟨w.heap.size+2,0,none⟩))/\∃a b c e,Pz (w.heap.size+3) (w.heap.size+2) [a,b,c,e] [R.1++[idle],L,R.2.1,R.2.2] w'
theorem Wj {f d:Nat}{ta tb:Int}{pa ca ea ia ma:Option Addr}{pl pc cl cc el ec il ic ml mc:Nat}{bw:Bool}{R:Te}{L:List Value}{S:Nat->Prop}(hT:QW w S f (.agg #[.int .i64 ta,.int .i64 tb,.slice pa pl pc,.slice ca cl cc,.slice ea el ec]) R)(hP:RD w S d (.slice ma ml mc) L)(hS:∀y,S y->y<w.heap.size)(hn:R.1.length<=100000/\R.2.1.length<=100000/\R.2.2.length<=100000/\L.length<=100000):
  Calls Tryz.prog 34 #[.agg #[.int .i64 ta,.int .i64 tb,.slice pa pl pc,.slice ca cl cc,.slice ea el ec],.agg #[.bool bw,.slice ia il ic,.slice ma ml mc]] w (V8 w R L (.slice ia il ic)):=by
 obtain ⟨W,hW⟩:∃W,W=((w.alloc (.cells #[.int .i64 ta,.int .i64 tb,.slice pa pl pc,.slice ca cl cc,.slice ea el ec] 30)).alloc (.cells #[.bool bw,.slice ia il ic,.slice ma ml mc] 33)).alloc (.cells #[.slice none 0 0,.slice none 0 0,.slice none 0 0,.slice none 0 0] 124):=⟨_,rfl⟩;have an:Below w.heap.size w W:=by rw [hW];exact (((Pb _ _).alloc (P6 _) _).alloc (by simp) _).alloc (by simp;omega) _
 have aO:W.heap.size=w.heap.size+1+1+1:=by rw [hW];simp
 have cW:W.heap[w.heap.size]? =some (.cells #[.int .i64 ta,.int .i64 tb,.slice pa pl pc,.slice ca cl cc,.slice ea el ec] 30 (0,0)):=by
  rw [hW,Qq _ _ _ (by simp;omega),Qq _ _ _ (by simp)];exact PF w _
 have pu:W.heap[w.heap.size+1]? =some (.cells #[.bool bw,.slice ia il ic,.slice ma ml mc] 33 (0,0)):=by
  rw [hW,Qq _ _ _ (by simp)];have:=PF (w.alloc (.cells #[.int .i64 ta,.int .i64 tb,.slice pa pl pc,.slice ca cl cc,.slice ea el ec] 30)) (.cells #[.bool bw,.slice ia il ic,.slice ma ml mc] 33);simpa using this
 have wS:W.heap[w.heap.size+1+1]? =some (.cells #[QS,QS,QS,QS] 124 (0,0)):=by
  rw [hW];have:=PF ((w.alloc (.cells #[.int .i64 ta,.int .i64 tb,.slice pa pl pc,.slice ca cl cc,.slice ea el ec] 30)).alloc (.cells #[.bool bw,.slice ia il ic,.slice ma ml mc] 33)) (.cells #[.slice none 0 0,.slice none 0 0,.slice none 0 0,.slice none 0 0] 124);simpa using this
 have c8:=Pz.start wS;have ie:∀y,S y->y<w.heap.size+1+1+1/\y≠w.heap.size+1+1:=λy hy=>by
  have:=hS y hy;omega
 have fh:∀y,S y->W.heap[y]? =w.heap[y]? :=λy hy=>an.block y (hS y hy);have CT:=JK f _ R W S _ _ _ _ _ _ _ _ _ _ (QW.on fh f _ _ hT) ie c8 (by omega) (by simp;omega) (by simp;omega) (by simp;omega);have HB:Hid (∀V,Kz (w.heap.size+1+1+1) (w.heap.size+1+1) W V->Below w.heap.size w V/\V.heap[w.heap.size+1]? =some (.cells #[.bool bw,.slice ia il ic,.slice ma ml mc] 33 (0,0))/\w.heap.size+1+1+1<=V.heap.size/\∀y,S y->V.heap[y]? =w.heap[y]?):=λV hV=>by
  have:=hV.size;exact ⟨⟨hV.os.trans an.os,hV.tape.trans an.tape,hV.output.trans an.output,by have:=an.size;omega,λy hy=>(hV.block y (by omega) (by omega)).trans (an.block y hy)⟩,(hV.block _ (by omega) (by omega)).trans pu,by omega,λy hy=>(hV.block y (ie y hy).1 (ie y hy).2).trans (fh y hy)⟩
 have Jo:Hid (∀jX V,Kv (w.heap.size+1+1) [QS,QS,QS,QS] jX W V->Kz (w.heap.size+1+1+1) (w.heap.size+1+1) W V):=λjX V hV=>hV.kz c8 (by omega);have Jp:=P4 hP;have bQ:=P4 ie;have y0:=P0 (i:=0) cW rfl;have y1:=P0 (i:=1) cW rfl;have y2:=P0 (i:=2) cW rfl;have y3:=P0 (i:=3) cW rfl;have y4:=P0 (i:=4) cW rfl;obtain ⟨n1,n2,n3,n4⟩:=hn;clear fh ie c8 wS pu cW aO an hT hP hS;go_enter Tryz.func34,Tryz.ntmps34
 go_upto_region 2 with fail
 rw [<-hW];clear hW
 go_upto_region 3 with (first | (go_at_call 61;(with_reducible refine Pe CT ?_);rintro e' w4 ⟨rfl,a4,c4,e4,hk4,hz4⟩))
 have G3:Hid (Kz (w.heap.size+1+1+1) (w.heap.size+1+1) W w4):=Jo.out _ _ hk4;obtain ⟨_,b4,s4,k4⟩:=HB.out w4 G3.out;have CR:=xz1 d _ L w4 S _ _ a4 QS c4 e4 R.1 [] R.2.1 R.2.2 (RD.on k4 d _ _ Jp.out) bQ.out hz4 s4 (by simp;omega);have x2:=P0 (i:=2) b4 rfl;clear hk4 hz4 CT b4 s4 k4 y0 y1 y2 y3 y4
 go_upto_region 4 with (first | (go_at_call 62;(with_reducible refine Pe CR ?_);rintro e' w5 ⟨rfl,hk5,b5,hz5⟩))
 have ck3:Hid (Kz (w.heap.size+1+1+1) (w.heap.size+1+1) W w5.drew):=(G3.trans hk5).trans ⟨rfl,rfl,rfl,P6 _,λ_ _ _=>rfl⟩;have eU:Hid (Pz (w.heap.size+1+1+1) (w.heap.size+1+1) [a4,b5,c4,e4] [R.1,L,R.2.1,R.2.2] w5.drew):=Pz.on (show Pz (w.heap.size+1+1+1) (w.heap.size+1+1) [a4,b5,c4,e4] [R.1,L,R.2.1,R.2.2] w5 from hz5) ((Pb _ _).drew);obtain ⟨hb5,c5,s5,_⟩:=HB.out w5.drew ck3.out;obtain ⟨F6S,vq,vr,vt,vu⟩:=info_parts Tryz.info26;have hown:w5.drew.ownsRow (w.heap.size+1+1+1) 26 1 a4 R.1.length R.1:=eU.own 0 (by simp) (by simp);have aw:(λw':World=>w'.cell? ⟨w.heap.size+1+1,0,none⟩=some a4/\w'.cell? ⟨w.heap.size+1,1,none⟩=some (Value.slice ia il ic)) w5.drew:=⟨P0 eU.blk rfl,P0 c5 rfl⟩;have bq:∀u∈[Value.slice ia il ic],u.oneCell'=true:=λu hu=>by rw [Ra.1 hu];rfl
 have dB:=P4 hb5;have kL:w.heap.size+1<w5.drew.heap.size:=by omega
 clear hb5 c5 hk5 hz5 CR x2 HB Jo Jp bQ G3;refine ZO (S:=(λw':World=>w'.cell? ⟨w.heap.size+1+1,0,none⟩=some a4/\w'.cell? ⟨w.heap.size+1,1,none⟩=some (Value.slice ia il ic))) (L:=11) (n:=12) (by kernel_rfl) rfl (by kernel_rfl) ?_;refine Ri (i:=0) (some 15) (v:= .pointer (some ⟨w.heap.size+1+1,0,none⟩)) rfl rfl (by kernel_rfl) (by kernel_rfl) (by kernel_rfl) (by kernel_rfl) (by kernel_rfl) (λ_ _ _ h=>h) (Or.inl ⟨by rfl,?_⟩) aw ?_
 ·intro w' aq;go_simp
 simp only [Act.put,PN,PS,PT];refine Ri (i:=1) (some 16) (v:= .pointer (some ⟨w.heap.size+1+1,0,none⟩)) rfl rfl (by kernel_rfl) (by kernel_rfl) (by kernel_rfl) (by kernel_rfl) (by kernel_rfl) (λ_ _ _ h=>h) (Or.inl ⟨by rfl,?_⟩) aw ?_
 ·intro w' aq;go_simp
 simp only [Act.put,PN,PS,PT];refine Ri (i:=2) (some 17) (v:= .pointer (some ⟨w.heap.size+1+1,0,none⟩)) rfl rfl (by kernel_rfl) (by kernel_rfl) (by kernel_rfl) (by kernel_rfl) (by kernel_rfl) (λ_ _ _ h=>h) (Or.inl ⟨by rfl,?_⟩) aw ?_
 ·intro w' aq;go_simp
 simp only [Act.put,PN,PS,PT];refine Ri (i:=3) (some 18) (v:= .pointer (some ⟨w.heap.size+1+1,0,none⟩)) rfl rfl (by kernel_rfl) (by kernel_rfl) (by kernel_rfl) (by kernel_rfl) (by kernel_rfl) (λ_ _ _ h=>h) (Or.inl ⟨by rfl,?_⟩) aw ?_
 ·intro w' aq;go_simp
 simp only [Act.put,PN,PS,PT];refine Ri (i:=4) (some 19) (v:=a4) rfl rfl (by kernel_rfl) (by kernel_rfl) (by kernel_rfl) (by kernel_rfl) (by kernel_rfl) (λ_ _ _ h=>h) (Or.inl ⟨by rfl,?_⟩) aw ?_
 ·intro w' aq;obtain ⟨s0,s1⟩:=aq;go_simp
 simp only [Act.put,PN,PS,PT];refine Ri (i:=5) (some 20) (v:= .pointer (some ⟨w.heap.size+1,1,none⟩)) rfl rfl (by kernel_rfl) (by kernel_rfl) (by kernel_rfl) (by kernel_rfl) (by kernel_rfl) (λ_ _ _ h=>h) (Or.inl ⟨by rfl,?_⟩) aw ?_
 ·intro w' aq;go_simp
 simp only [Act.put,PN,PS,PT];refine Ri (i:=6) (some 21) (v:=Value.slice ia il ic) rfl rfl (by kernel_rfl) (by kernel_rfl) (by kernel_rfl) (by kernel_rfl) (by kernel_rfl) (λ_ _ _ h=>h) (Or.inl ⟨by rfl,?_⟩) aw ?_
 ·intro w' aq;obtain ⟨s0,s1⟩:=aq;go_simp
 simp only [Act.put,PN,PS,PT];refine SI (i:=7) (by kernel_rfl) rfl (by kernel_rfl) λK hK=> ?_;go_simp;refine hK.out _ _ (λ_=>⟨((Pb _ _).alloc (P6 _) _ |>.cell (p:=⟨w.heap.size+1+1,0,none⟩) (PV eU.blk)).trans aw.1,((Pb _ _).alloc (P6 _) _ |>.cell (p:=⟨w.heap.size+1,1,none⟩) kL).trans aw.2⟩) ?_;clear hK K;refine SI (i:=8) (by kernel_rfl) rfl (by kernel_rfl) λK hK=> ?_;have gV:(w5.alloc (.cells #[Value.slice ia il ic] 26)).drew.heap.size=w5.drew.heap.size+1:=Sb w5 _;refine step_append_lies _ rfl _ _ 58 rfl (w.heap.size+1+1+1) 26 F6S _ 1 24 Tryz.underlying58 vq vr vt vu rfl (by decide) _ _ _ rfl (hown.alloc _) ⟨w5.drew.heap.size,0,none⟩ 1 1 [Value.slice ia il ic] rfl rfl (World.news_of_block (Qn w5.drew _)) bq (by omega) (by unfold maxLen;omega) (by omega) (by rw [gV];omega) (w5.drew.heap.size+1) gV ?_;intro g6 gG w6 b8 bC cr dr;replace bC:(w5.drew.alloc (.cells #[Value.slice ia il ic] 26)).grownBy w6 a4.ownBlock:=bC;replace cr:a4.ownBlock=some g6\/g6=w5.drew.heap.size+1:=cr;obtain ⟨hblk5,cD,bT⟩:=eU.put 0 (by simp) (by simp) s5 b8 bC cr;have dj:Hid (V8 w R L (Value.slice ia il ic) (.returned (.pointer (some ⟨w.heap.size+1+1,0,none⟩))) (w6.setCell ⟨w.heap.size+1+1,0,none⟩ (.slice (some ⟨g6,0,none⟩) (R.1.length+1) gG))):=⟨⟨bT.os.trans dB.os,bT.tape.trans dB.tape,bT.output.trans dB.output,PZ dB.size bT.size,λy hy=>(bT.block y (by omega) (by omega)).trans (dB.block y hy)⟩,rfl,.slice (some ⟨g6,0,none⟩) (R.1.length+1) gG,b5,c4,e4,cD⟩;have j7:w6.heap[w.heap.size+1]? =w5.drew.heap[w.heap.size+1]? :=by
  rw [bC.block _ (by rw [Sb];omega) (λhq=>by have:=(eU.out.lt a4 (by simp) _ hq.symm).1;omega),Qq _ _ _ kL]
 have gF:(λw':World=>w'.cell? ⟨w.heap.size+1+1,0,none⟩=some a4/\w'.cell? ⟨w.heap.size+1,1,none⟩=some (Value.slice ia il ic)) w6:=⟨P0 hblk5 rfl,(Qm j7 1).trans aw.2⟩;have z1:=Pp (o:=0) hblk5;refine hK.out _ _ (λ_=>gF) ?_;clear hK K;simp only [Act.put,PN];refine SI (i:=9) (by kernel_rfl) rfl (by kernel_rfl) λK hK=> ?_;go_simp;refine hK.out _ _ (λ_=>gF) ?_;clear hK K;refine SI (i:=10) (by kernel_rfl) rfl (by kernel_rfl) λK hK=> ?_;go_simp;refine hK.out _ _ (λ_=>gF) ?_;clear hK K;refine SI (i:=11) (by kernel_rfl) rfl (by kernel_rfl) λK hK=> ?_;obtain ⟨y1,_⟩:=gF;go_simp;refine hK.out _ _ (λh=>absurd rfl h) ?_;clear hK K;refine Yn (by kernel_rfl) ?_ _;clear cD bT hown b8 bC cr dr hblk5 y1 z1 bq aw kL j7 gV;go_wp2;refine Qv (v:= .pointer (some ⟨w.heap.size+1+1,0,none⟩)) (by simp [results,Tryz.results34,go_sem]) rfl ?_;exact dj.out
end
section
variable {w:World}{k e:Nat}{L:List Value}{bs:List (List Nat)}
def QH (w:World)(k e:Nat)(L:List Value)(bs:List (List Nat)):Prop:=bs.length=L.length/\∀i (h:i<L.length) (h':i<bs.length),∃ad n cap,L[i]= .slice ad n cap/\QG w k e ad n cap bs[i]
theorem QH.nil (w:World)(k e:Nat):QH w k e [] []:=⟨rfl,λi h=>by simp at h⟩
theorem QH.cons {ad:Option Addr}{n cap:Nat}{b:List Nat}(h:QG w k e ad n cap b)(hl:QH w k e L bs):QH w k e (.slice ad n cap::L) (b::bs):=by
 refine ⟨by simp [hl.1],λi hi aB=> ?_⟩;cases i with
 | zero=>exact ⟨ad,n,cap,rfl,h⟩
 | succ i=>exact hl.2 i (by simpa using hi) (by simpa using aB)
theorem QH.append {L':List Value}{lA:List (List Nat)}(h:QH w k e L bs)(h':QH w k e L' lA):QH w k e (L++L') (bs++lA):=by
 refine ⟨by simp [h.1,h'.1],λi hi aB=> ?_⟩;have h1:=h.1;rcases Sk i L.length with hl | hl
 ·rw [WO hl,WO (by omega)];exact h.2 i hl (by omega)
 rw [WN hl,WN (by omega)];have e1:i-bs.length=i-L.length:=by omega
 simp only [e1];exact h'.2 _ _ _
theorem ye1 {w:World}{k e:Nat}:∀(Ls:List (List Value)) (aC:List (List Nat)),Ls.length=aC.length->(∀i (h:i<Ls.length) (h':i<aC.length),∃c,QH w k e Ls[i] c/\c.flatten.Perm aC[i])->∃c,QH w k e Ls.flatten c/\c.flatten.Perm aC.flatten
 | [],[],_,_=>⟨[],QH.nil _ _ _,by simp⟩
 | a::Ls,b::aC,hl,h=>by
  obtain ⟨c,h1,h2⟩:=h 0 (by simp) (by simp);obtain ⟨c',h3,h4⟩:=ye1 Ls aC (by simpa using hl) λi hi aB=>h (i+1) (by simpa using hi) (by simpa using aB);refine ⟨c++c',h1.append h3,?_⟩;rw [Tu,U3];exact h2.append h4
 | [],_::_,h,_=>by simp at h
 | _::_,[],h,_=>by simp at h
theorem Lg {w:World}{S:Nat->Prop}:∀(d:Nat) (v:Value) (bs:List Nat),Ux w d v bs->(∀b∈bs,S b)->∃L c,RD w S d v L/\QH w 4 50 L c/\c.flatten.Perm bs
 | 0,v,bs,⟨ad,cap,h1,h2⟩,_=>by
  subst h1;exact ⟨[.slice ad 0 cap],[bs],⟨ad,cap,rfl,rfl⟩,QH.cons h2 (QH.nil _ _ _),by simp⟩
 | d+1,v,bs,⟨ad,n,cap,b0,aC,h1,h2,h3,h4,h5⟩,hS=>by
  subst h1 h2;have hb:∀i (h:i<aC.length),∃L,∃g u,ad=some ⟨g,0,none⟩/\S g/\w.cell? ⟨g,i*4+3,none⟩=some u/\RD w S d u L/\∃c,QH w 4 50 L c/\c.flatten.Perm aC[i]:=λi hi=>by
   obtain ⟨g,u,q1,q2,q3⟩:=h5 i hi;obtain ⟨L,c,k1,k2,k3⟩:=Lg d u _ q3 λb hb=>hS b (PE.2 (.inr (RF.2 ⟨_,Px hi,hb⟩)));exact ⟨L,g,u,q1,hS g (by rw [h3.at q1];simp),q2,k1,c,k2,k3⟩
  obtain ⟨F,hF⟩:=Og (r:=λ(i:Fin aC.length) L=>∃g u,ad=some ⟨g,0,none⟩/\S g/\w.cell? ⟨g,i.1*4+3,none⟩=some u/\RD w S d u L/\∃c,QH w 4 50 L c/\c.flatten.Perm aC[i.1]) λi=>hb i.1 i.2;have fk:n<=cap:=by
   rcases h3 with ⟨_,h,h',_⟩ | ⟨_,_,_,_,_,_,h,_⟩<;>omega
  obtain ⟨c,c1,c2⟩:=ye1 (w:=w) (k:=4) (e:=50) (List.ofFn F) aC (by simp) λi hi aB=>by
   rw [Ym];obtain ⟨_,_,_,_,_,_,q⟩:=hF ⟨i,aB⟩;exact q
  refine ⟨.slice ad n cap::(List.ofFn F).flatten,b0::c,⟨ad,n,cap,List.ofFn F,rfl,fk,rfl,by simpa using h4,λi hi=> ?_⟩,QH.cons h3 c1,?_⟩
  ·rw [Ym];obtain ⟨g,u,q1,q2,q3,q4,_⟩:=hF ⟨i,by simpa using hi⟩;exact ⟨g,u,q1,q2,q3,q4⟩
  rw [U3];exact List.Perm.append_left _ c2
def Yz (w:World)(R:Te)(bs:List Nat):Prop:=∃a b c,QH w 1 3 R.1 a/\QH w 7 53 R.2.1 b/\QH w 5 30 R.2.2 c/\(a.flatten++(b.flatten++c.flatten)).Perm bs
theorem LD {w:World}:∀(G:List Te) (aC:List (List Nat)),G.length=aC.length->(∀i (h:i<G.length) (h':i<aC.length),Yz w G[i] aC[i])->Yz w (Qr G,QD G,QC G) aC.flatten
 | [],[],_,_=>⟨[],[],[],QH.nil _ _ _,QH.nil _ _ _,QH.nil _ _ _,by simp⟩
 | g::G,b::aC,hl,h=>by
  obtain ⟨x,y,z,h1,h2,h3,h4⟩:=h 0 (by simp) (by simp);obtain ⟨x',y',z',k1,k2,k3,k4⟩:=LD G aC (by simpa using hl) λi hi aB=>h (i+1) (by simpa using hi) (by simpa using aB);have e1:Qr (g::G)=g.1++Qr G:=by unfold Qr;simp
  have e2:QD (g::G)=g.2.1++QD G:=by unfold QD;simp
  have e3:QC (g::G)=g.2.2++QC G:=by unfold QC;simp
  refine ⟨x++x',y++y',z++z',by rw [e1];exact h1.append k1,by rw [e2];exact h2.append k2,by rw [e3];exact h3.append k3,?_⟩;refine JC.2 λq=> ?_;have m1:=h4.count_eq q;have m2:=k4.count_eq q;simp only [Tu,U3,Ld,Yx] at m1 m2⊢;omega
 | [],_::_,h,_=>by simp at h
 | _::_,[],h,_=>by simp at h
theorem N0 {w:World}{S:Nat->Prop}:∀(f:Nat) (x:Value) (bs:List Nat),T1 w f x bs->(∀b∈bs,S b)->∃R,QW w S f x R/\Yz w R bs
 | 0,x,bs,⟨h1,h2⟩,_=>by
  subst h1 h2;have hz:∀k e,QG w k e none 0 0 []:=λk e=> .inl ⟨rfl,rfl,rfl,rfl⟩;exact ⟨_,⟨rfl,rfl⟩,[[]],[[]],[[]],QH.cons (hz _ _) (QH.nil _ _ _),QH.cons (hz _ _) (QH.nil _ _ _),QH.cons (hz _ _) (QH.nil _ _ _),by simp⟩
 | f+1,x,bs,⟨a,b,pa,pl,pc,ca,cl,cc,ea,el,ec,bp,bc,be,aC,ess,h1,h2,h3,h4,h5,h6,h7,h8,h9⟩,hS=>by
  subst h1 h2 h6 h7;have hb:∀i (h:i<aC.length),∃R,(∃g v0 v1 v2 v3 v4,ca=some ⟨g,0,none⟩/\S g/\w.cell? ⟨g,i*7+2,none⟩=some v0/\w.cell? ⟨g,i*7+3,none⟩=some v1/\w.cell? ⟨g,i*7+4,none⟩=some v2/\w.cell? ⟨g,i*7+5,none⟩=some v3/\w.cell? ⟨g,i*7+6,none⟩=some v4/\QW w S f (.agg #[v0,v1,v2,v3,v4]) R)/\Yz w R aC[i]:=λi hi=>by
   obtain ⟨g,v0,v1,v2,v3,v4,q1,k0,k1,k2,k3,k4,q⟩:=h8 i hi;obtain ⟨R,r1,r2⟩:=N0 f _ _ q λb hb=>hS b (by
    have:b∈aC.flatten:=RF.2 ⟨_,Px hi,hb⟩;simp [this])
   exact ⟨R,⟨g,v0,v1,v2,v3,v4,q1,hS g (by rw [h4.at q1];simp),k0,k1,k2,k3,k4,r1⟩,r2⟩
  have he:∀i (h:i<ess.length),∃R,(∃g v0 v1 v2 v3 v4,ea=some ⟨g,0,none⟩/\S g/\w.cell? ⟨g,i*5,none⟩=some v0/\w.cell? ⟨g,i*5+1,none⟩=some v1/\w.cell? ⟨g,i*5+2,none⟩=some v2/\w.cell? ⟨g,i*5+3,none⟩=some v3/\w.cell? ⟨g,i*5+4,none⟩=some v4/\QW w S f (.agg #[v0,v1,v2,v3,v4]) R)/\Yz w R ess[i]:=λi hi=>by
   obtain ⟨g,v0,v1,v2,v3,v4,q1,k0,k1,k2,k3,k4,q⟩:=h9 i hi;obtain ⟨R,r1,r2⟩:=N0 f _ _ q λb hb=>hS b (by
    have:b∈ess.flatten:=RF.2 ⟨_,Px hi,hb⟩;simp [this])
   exact ⟨R,⟨g,v0,v1,v2,v3,v4,q1,hS g (by rw [h5.at q1];simp),k0,k1,k2,k3,k4,r1⟩,r2⟩
  obtain ⟨F,hF⟩:=Og (r:=λ(i:Fin aC.length) R=>(∃g v0 v1 v2 v3 v4,ca=some ⟨g,0,none⟩/\S g/\w.cell? ⟨g,i.1*7+2,none⟩=some v0/\w.cell? ⟨g,i.1*7+3,none⟩=some v1/\w.cell? ⟨g,i.1*7+4,none⟩=some v2/\w.cell? ⟨g,i.1*7+5,none⟩=some v3/\w.cell? ⟨g,i.1*7+6,none⟩=some v4/\QW w S f (.agg #[v0,v1,v2,v3,v4]) R)/\Yz w R aC[i.1]) λi=>hb i.1 i.2;obtain ⟨F',yN⟩:=Og (r:=λ(i:Fin ess.length) R=>(∃g v0 v1 v2 v3 v4,ea=some ⟨g,0,none⟩/\S g/\w.cell? ⟨g,i.1*5,none⟩=some v0/\w.cell? ⟨g,i.1*5+1,none⟩=some v1/\w.cell? ⟨g,i.1*5+2,none⟩=some v2/\w.cell? ⟨g,i.1*5+3,none⟩=some v3/\w.cell? ⟨g,i.1*5+4,none⟩=some v4/\QW w S f (.agg #[v0,v1,v2,v3,v4]) R)/\Yz w R ess[i.1]) λi=>he i.1 i.2;obtain ⟨x1,x2,x3,l1,l2,l3,l4⟩:=LD (w:=w) (List.ofFn F) aC (by simp) λi hi aB=>by
   rw [Ym];exact (hF ⟨i,aB⟩).2
  obtain ⟨y1,y2,y3,m1,m2,m3,m4⟩:=LD (w:=w) (List.ofFn F') ess (by simp) λi hi aB=>by
   rw [Ym];exact (yN ⟨i,aB⟩).2
  refine ⟨_,⟨a,b,pa,pl,pc,ca,cc,ea,ec,List.ofFn F,List.ofFn F',by simp,rfl,λi hi=> ?_,λi hi=> ?_⟩,bp::(x1++y1),bc::(x2++y2),be::(x3++y3),QH.cons h3 (l1.append m1),?_,?_,?_⟩
  ·rw [Ym];exact (hF ⟨i,by simpa using hi⟩).1
  ·rw [Ym];exact (yN ⟨i,by simpa using hi⟩).1
  ·have:=QH.cons h4 (l2.append m2);simpa using this
  ·have:=QH.cons h5 (l3.append m3);simpa using this
  refine JC.2 λq=> ?_;have n1:=l4.count_eq q;have n2:=m4.count_eq q;simp only [Tu,U3,Ld] at n1 n2⊢;omega
end
section
variable {w:World}{B e:Nat}{v:Value}{L:List Value}
def SZ (w:World)(k off:Nat)(L:List Value):Prop:=∀i (h:i<L.length),∃ad n cap,L[i]= .slice ad n cap/\n<=cap/\n<=1000000/\∀q,q<n->∃g,ad=some ⟨g,0,none⟩/\w.cell? ⟨g,q*k+off,none⟩=some (.int .i64 (-1000-(i:Int)))
theorem Uv (h:w.ownsRow B e 1 v L.length L){i:Nat}(hi:i<L.length):∃G C,v= .slice (some ⟨G,0,none⟩) L.length C/\L.length<=C/\w.cell? ⟨G,i,none⟩=some L[i]:=by
 rcases id h.2 with ⟨_,h0⟩ | ⟨g,cap,cur,rfl,h1,h2,h3,h4,h5,h6⟩
 ·omega
 refine ⟨g,cap,rfl,h3,P0 h2 ?_⟩;rw [R4] at h6;have:cur.toList[i]? =some L[i]:=by
  have:=congrArg (λl:List Value=>l[i]?) h6;simp only [ZH] at this;rw [Pc hi,PR hi] at this;exact this
 rwa [Nr] at this
theorem UB (h:w.ownsRow B e 1 v L.length L):∃ad C,v= .slice ad L.length C:=by
 rcases id h.2 with ⟨rfl,h0⟩ | ⟨g,cap,cur,rfl,_⟩
 ·exact ⟨none,0,by rw [h0]⟩
 exact ⟨_,cap,rfl⟩
theorem LY {P:Nat}{a b c e:Value}{la lb lc le:List Value}(hp:Pz B P [a,b,c,e] [la,lb,lc,le] w)(h1:SZ w 1 0 la)(h2:SZ w 4 0 lb)(h3:SZ w 7 1 lc)(h4:SZ w 5 0 le)(hn:la.length<=1000000/\lb.length<=1000000/\lc.length<=1000000/\le.length<=1000000):
  Calls Tryz.prog 36 #[.pointer (some ⟨P,0,none⟩)] w λr w'=>r= .returned (.bool true)/\w'=w:=by
 have oa:w.ownsRow B 26 1 a la.length la:=hp.own 0 (by simp) (by simp);have ob:w.ownsRow B 31 1 b lb.length lb:=hp.own 1 (by simp) (by simp);have oc:w.ownsRow B 27 1 c lc.length lc:=hp.own 2 (by simp) (by simp);have oe:w.ownsRow B 28 1 e le.length le:=hp.own 3 (by simp) (by simp);have c0:w.cell? ⟨P,0,none⟩=some a:=P0 hp.blk rfl;have c1:w.cell? ⟨P,1,none⟩=some b:=P0 hp.blk rfl;have c2:w.cell? ⟨P,2,none⟩=some c:=P0 hp.blk rfl;have c3:w.cell? ⟨P,3,none⟩=some e:=P0 hp.blk rfl;have cg3:Hid (∀i (h:i<la.length),∃G C,a= .slice (some ⟨G,0,none⟩) la.length C/\la.length<=C/\w.cell? ⟨G,i,none⟩=some la[i]):=λi h=>Uv oa h;have bf7:Hid (∀i (h:i<lb.length),∃G C,b= .slice (some ⟨G,0,none⟩) lb.length C/\lb.length<=C/\w.cell? ⟨G,i,none⟩=some lb[i]):=λi h=>Uv ob h;have bk6:Hid (∀i (h:i<lc.length),∃G C,c= .slice (some ⟨G,0,none⟩) lc.length C/\lc.length<=C/\w.cell? ⟨G,i,none⟩=some lc[i]):=λi h=>Uv oc h;have bk2:Hid (∀i (h:i<le.length),∃G C,e= .slice (some ⟨G,0,none⟩) le.length C/\le.length<=C/\w.cell? ⟨G,i,none⟩=some le[i]):=λi h=>Uv oe h;have aw7:=P4 h1;have az7:=P4 h2;have bp5:=P4 h3;have by3:=P4 h4;obtain ⟨aa,ka,rfl⟩:=UB oa;obtain ⟨ab,kb,rfl⟩:=UB ob;obtain ⟨ac,kc,rfl⟩:=UB oc;obtain ⟨ae,ke,rfl⟩:=UB oe;obtain ⟨n1,n2,n3,n4⟩:=hn;clear hp h1 h2 h3 h4 oa ob oc oe;go_enter Tryz.func36,Tryz.ntmps36
 go_upto_region 2 with fail
 go_loopw [3] (λiv wr=>∃i:Nat,i<=la.length/\iv= .int .i64 i/\wr=w) (λiv _=>la.length-(intOf iv).toNat)
 case atStart=>exact ⟨0,by omega,by go_num,rfl⟩
 obtain ⟨i,hi,rfl,aW⟩:=hrel;subst wr;by_cases ag:i<la.length
 ·obtain ⟨G,C,hG,pp,qr⟩:=cg3.out i ag;obtain ⟨rfl,rfl⟩:aa=some ⟨G,0,none⟩/\ka=C:=by simpa using hG
  obtain ⟨ad,n,cap,hv,iY,iO,hq⟩:=aw7.out i ag;rw [hv] at qr;have HQ:Hid (∀q,q<n->∃g,ad=some ⟨g,0,none⟩/\w.cell? ⟨g,q,none⟩=some (.int .i64 (-1000-(i:Int)))):=λq h=>by
   have:=hq q h;simpa using this
  have i1:(0:Int)<=(i:Int):=by omega
  have i2:(i:Int)<(la.length:Int):=by omega
  clear hq hG hv
  go_upto_region 5 with fail
  go_loopw [4] (λkv wr=>∃q:Nat,q<=n/\kv= .int .i64 q/\wr=w) (λkv _=>n-(intOf kv).toNat)
  case atStart=>exact ⟨0,by omega,by go_num,rfl⟩
  obtain ⟨q,sN,rfl,aW⟩:=hrel;subst wr;by_cases dZ:q<n
  ·obtain ⟨g,rfl,qc⟩:=HQ.out q dZ;have i3:(0:Int)<=(q:Int):=by omega
   have i4:(q:Int)<(n:Int):=by omega
   go_wp2
   go_roundw
   case rel=>exact ⟨q+1,dZ,by go_num,trivial⟩
   case measure=>simp [intOf];omega
  obtain rfl:q=n:=by omega
  go_wp2
  go_roundw
  case rel=>exact ⟨i+1,ag,by go_num,trivial⟩
  case measure=>simp [intOf];omega
 obtain rfl:i=la.length:=by omega
 go_upto_region 10 with fail
 go_loopw [5] (λiv wr=>∃i:Nat,i<=lb.length/\iv= .int .i64 i/\wr=w) (λiv _=>lb.length-(intOf iv).toNat)
 case atStart=>exact ⟨0,by omega,by go_num,rfl⟩
 obtain ⟨i,hi,rfl,aW⟩:=hrel;subst wr;by_cases ag:i<lb.length
 ·obtain ⟨G,C,hG,pp,qr⟩:=bf7.out i ag;obtain ⟨rfl,rfl⟩:ab=some ⟨G,0,none⟩/\kb=C:=by simpa using hG
  obtain ⟨ad,n,cap,hv,iY,iO,hq⟩:=az7.out i ag;rw [hv] at qr;have HQ:Hid (∀q,q<n->∃g,ad=some ⟨g,0,none⟩/\w.cell? ⟨g,q*4,none⟩=some (.int .i64 (-1000-(i:Int)))):=λq h=>by
   have:=hq q h;simpa using this
  have i1:(0:Int)<=(i:Int):=by omega
  have i2:(i:Int)<(lb.length:Int):=by omega
  clear hq hG hv
  go_upto_region 13 with fail
  go_loopw [6] (λkv wr=>∃q:Nat,q<=n/\kv= .int .i64 q/\wr=w) (λkv _=>n-(intOf kv).toNat)
  case atStart=>exact ⟨0,by omega,by go_num,rfl⟩
  obtain ⟨q,sN,rfl,aW⟩:=hrel;subst wr;by_cases dZ:q<n
  ·obtain ⟨g,rfl,qc⟩:=HQ.out q dZ;have i3:(0:Int)<=(q:Int):=by omega
   have i4:(q:Int)<(n:Int):=by omega
   go_wp2
   go_roundw
   case rel=>exact ⟨q+1,dZ,by go_num,trivial⟩
   case measure=>simp [intOf];omega
  obtain rfl:q=n:=by omega
  go_wp2
  go_roundw
  case rel=>exact ⟨i+1,ag,by go_num,trivial⟩
  case measure=>simp [intOf];omega
 obtain rfl:i=lb.length:=by omega
 go_upto_region 18 with fail
 go_loopw [7] (λiv wr=>∃i:Nat,i<=lc.length/\iv= .int .i64 i/\wr=w) (λiv _=>lc.length-(intOf iv).toNat)
 case atStart=>exact ⟨0,by omega,by go_num,rfl⟩
 obtain ⟨i,hi,rfl,aW⟩:=hrel;subst wr;by_cases ag:i<lc.length
 ·obtain ⟨G,C,hG,pp,qr⟩:=bk6.out i ag;obtain ⟨rfl,rfl⟩:ac=some ⟨G,0,none⟩/\kc=C:=by simpa using hG
  obtain ⟨ad,n,cap,hv,iY,iO,hq⟩:=bp5.out i ag;rw [hv] at qr;have HQ:Hid (∀q,q<n->∃g,ad=some ⟨g,0,none⟩/\w.cell? ⟨g,q*7+1,none⟩=some (.int .i64 (-1000-(i:Int)))):=λq h=>by
   have:=hq q h;simpa using this
  have i1:(0:Int)<=(i:Int):=by omega
  have i2:(i:Int)<(lc.length:Int):=by omega
  clear hq hG hv
  go_upto_region 21 with fail
  go_loopw [8] (λkv wr=>∃q:Nat,q<=n/\kv= .int .i64 q/\wr=w) (λkv _=>n-(intOf kv).toNat)
  case atStart=>exact ⟨0,by omega,by go_num,rfl⟩
  obtain ⟨q,sN,rfl,aW⟩:=hrel;subst wr;by_cases dZ:q<n
  ·obtain ⟨g,rfl,qc⟩:=HQ.out q dZ;have i3:(0:Int)<=(q:Int):=by omega
   have i4:(q:Int)<(n:Int):=by omega
   go_wp2
   go_roundw
   case rel=>exact ⟨q+1,dZ,by go_num,trivial⟩
   case measure=>simp [intOf];omega
  obtain rfl:q=n:=by omega
  go_wp2
  go_roundw
  case rel=>exact ⟨i+1,ag,by go_num,trivial⟩
  case measure=>simp [intOf];omega
 obtain rfl:i=lc.length:=by omega
 go_upto_region 26 with fail
 go_loopw [9] (λiv wr=>∃i:Nat,i<=le.length/\iv= .int .i64 i/\wr=w) (λiv _=>le.length-(intOf iv).toNat)
 case atStart=>exact ⟨0,by omega,by go_num,rfl⟩
 obtain ⟨i,hi,rfl,aW⟩:=hrel;subst wr;by_cases ag:i<le.length
 ·obtain ⟨G,C,hG,pp,qr⟩:=bk2.out i ag;obtain ⟨rfl,rfl⟩:ae=some ⟨G,0,none⟩/\ke=C:=by simpa using hG
  obtain ⟨ad,n,cap,hv,iY,iO,hq⟩:=by3.out i ag;rw [hv] at qr;have HQ:Hid (∀q,q<n->∃g,ad=some ⟨g,0,none⟩/\w.cell? ⟨g,q*5,none⟩=some (.int .i64 (-1000-(i:Int)))):=λq h=>by
   have:=hq q h;simpa using this
  have i1:(0:Int)<=(i:Int):=by omega
  have i2:(i:Int)<(le.length:Int):=by omega
  clear hq hG hv
  go_upto_region 29 with fail
  go_loopw [10] (λkv wr=>∃q:Nat,q<=n/\kv= .int .i64 q/\wr=w) (λkv _=>n-(intOf kv).toNat)
  case atStart=>exact ⟨0,by omega,by go_num,rfl⟩
  obtain ⟨q,sN,rfl,aW⟩:=hrel;subst wr;by_cases dZ:q<n
  ·obtain ⟨g,rfl,qc⟩:=HQ.out q dZ;have i3:(0:Int)<=(q:Int):=by omega
   have i4:(q:Int)<(n:Int):=by omega
   go_wp2
   go_roundw
   case rel=>exact ⟨q+1,dZ,by go_num,trivial⟩
   case measure=>simp [intOf];omega
  obtain rfl:q=n:=by omega
  go_wp2
  go_roundw
  case rel=>exact ⟨i+1,ag,by go_num,trivial⟩
  case measure=>simp [intOf];omega
 obtain rfl:i=le.length:=by omega
 go_wp2;go_ret;exact ⟨rfl,rfl⟩
end
section
variable {w wr a b w':World}{e k off q i:Nat}{L:List Value}{bs:List (List Nat)}
theorem J' {e:Nat}:∀(vs:List Value) (w:World) (g o:Nat) (cur:Array Value),w.heap[g]? =some (.cells cur e (0,0))->∃cur',(w.setCells g o vs).heap[g]? =some (.cells cur' e (0,0))/\cur'.size=cur.size
 | [],_,_,_,cur,h=>⟨cur,h,rfl⟩
 | v::vs,w,g,o,cur,h=>by
  obtain ⟨cur',h1,h2⟩:=J' vs (w.setCell ⟨g,o,none⟩ v) g (o+1) _ (Q5 (i:=o) (v:=v) h);exact ⟨cur',h1,by rw [h2];simp⟩
theorem NB:∀(vs:List Value) (w:World) (g o y:Nat),y≠g->(w.setCells g o vs).heap[y]? =w.heap[y]?
 | [],_,_,_,_,_=>rfl
 | v::vs,w,g,o,y,h=>by
  rw [World.setCells,NB vs _ g (o+1) y h,PX _ _ _ _ h]
theorem Ms:∀(vs:List Value) (w:World) (g o:Nat),(w.setCells g o vs).os=w.os/\(w.setCells g o vs).tape=w.tape/\(w.setCells g o vs).output=w.output/\(w.setCells g o vs).heap.size=w.heap.size
 | [],_,_,_=>⟨rfl,rfl,rfl,rfl⟩
 | v::vs,w,g,o=>by
  obtain ⟨h1,h2,h3,h4⟩:=Ms vs (w.setCell ⟨g,o,none⟩ v) g (o+1);exact ⟨h1,h2,h3,h4.trans (by simp [World.setCell])⟩
theorem yh1 {g o:Nat}{cur:Array Value}(h:w.heap[g]? =some (.cells cur e (0,0)))(ho:o<cur.size):(w.cell? ⟨g,o,none⟩).isSome=true:=by
 rw [P0 h (Rm ho)]
 rfl
structure Mk (k e off:Nat)(L:List Value)(bs:List (List Nat))(w:World)(i q:Nat)(wr:World):Prop where
 kx:KxB bs.flatten w wr
 lis:QH wr k e L bs
 don:∀j (h:j<L.length) ad n cap,L[j]= .slice ad n cap->∀p,p<n->(j<i\/(j=i/\p<q))->∃g,ad=some ⟨g,0,none⟩/\wr.cell? ⟨g,p*k+off,none⟩=some (.int .i64 (-1000-(j:Int)))
theorem KxB.refl (bs:List Nat)(w:World):KxB bs w w:=⟨rfl,rfl,rfl,P6 _,λ_ _ _=>rfl⟩
theorem KxB.trans {bs:List Nat}{c:World}(h:KxB bs a b)(k:KxB bs b c):KxB bs a c:=⟨k.os.trans h.os,k.tape.trans h.tape,k.output.trans h.output,PZ h.size k.size,λy h1 h2=>(k.block y (PQ h1 h.size) h2).trans (h.block y h1 h2)⟩
theorem KxB.up {bs cs:List Nat}(h:KxB bs a b)(hc:∀y∈bs,y∈cs):KxB cs a b:=⟨h.os,h.tape,h.output,h.size,λy h1 h2=>h.block y h1 λh3=>h2 (hc y h3)⟩
theorem Mk.start (h:QH w k e L bs):Mk k e off L bs w 0 0 w:=⟨KxB.refl _ _,h,λj _ _ _ _ _ p _ h=>by omega⟩
theorem Mk.next (h:Mk k e off L bs w i q wr)(hq:∀(h:i<L.length) ad n cap,L[i]= .slice ad n cap->n<=q):Mk k e off L bs w (i+1) 0 wr:=by
 refine ⟨h.kx,h.lis,λj hj ad n cap e p hp hlt=>h.don j hj ad n cap e p hp ?_⟩;by_cases bZ:j=i
 ·subst bZ;have:=hq hj ad n cap e;omega
 omega
theorem Y' (h:QH w k e L bs)(hn:bs.flatten.Nodup){i j:Nat}(hi:i<L.length)(hj:j<L.length)(am:i≠j){g g' n n' c c':Nat}(e1:L[i]= .slice (some ⟨g,0,none⟩) n c)(e2:L[j]= .slice (some ⟨g',0,none⟩) n' c'):g≠g':=by
 have aB:i<bs.length:=by rw [h.1];exact hi
 have aJ:j<bs.length:=by rw [h.1];exact hj
 obtain ⟨ad,m,cp,q1,q2⟩:=h.2 i hi aB;obtain ⟨ad',m',Bj,q3,q4⟩:=h.2 j hj aJ;rw [e1] at q1;rw [e2] at q3;injection q1 with q1;injection q3 with q3;have b1:=q2.at q1.symm;have b2:=q4.at q3.symm;intro e;subst e;rcases Nat.lt_or_gt_of_ne am with hlt | hlt
 ·exact Z1 hn aJ (b:=g) (by rw [b2];simp) (RF.2 ⟨bs[i],Yr.2 ⟨i,by omega,rfl⟩,by rw [b1];simp⟩)
 exact Z1 hn aB (b:=g) (by rw [b1];simp) (RF.2 ⟨bs[j],Yr.2 ⟨j,by omega,rfl⟩,by rw [b2];simp⟩)
theorem Ki (h:QH w k e L bs){i:Nat}(hi:i<L.length){g n cap:Nat}(e1:L[i]= .slice (some ⟨g,0,none⟩) n cap):g∈bs.flatten/\∃cur,w.heap[g]? =some (.cells cur e (0,0))/\cur.size=cap*k/\n<=cap/\cap<=maxLen:=by
 have aB:i<bs.length:=by rw [h.1];exact hi
 obtain ⟨ad,m,cp,q1,q2⟩:=h.2 i hi aB;rw [e1] at q1;injection q1 with q1 q3 q4;subst q3 q4;have b1:=q2.at q1.symm;refine ⟨RF.2 ⟨bs[i],Px aB,by rw [b1];simp⟩,?_⟩;rcases q2 with ⟨q2,_⟩ | ⟨g',cur,q2,_,q5,q6,q7,q8⟩
 ·rw [<-q1] at q2;cases q2
 rw [<-q1] at q2;injection q2 with q2;injection q2 with q2;exact ⟨cur,by rw [q2];exact q5,q6,q7,q8⟩
theorem XI (h:QH w k e L bs){g:Nat}{cur:Array Value}(hg:w.heap[g]? =some (.cells cur e (0,0)))(o:Nat)(vs:List Value):QH (w.setCells g o vs) k e L bs:=by
 refine ⟨h.1,λi hi aB=> ?_⟩;obtain ⟨ad,n,cap,q1,q2⟩:=h.2 i hi aB;refine ⟨ad,n,cap,q1,?_⟩;rcases q2 with q2 | ⟨g',cur',q2,q3,q4,q5,q6⟩
 ·exact .inl q2
 by_cases e1:g'=g
 ·subst e1;obtain ⟨mq,c1,c2⟩:=J' vs w g' o _ q4;exact .inr ⟨g',mq,q2,q3,c1,c2.trans q5,q6⟩
 exact .inr ⟨g',cur',q2,q3,(NB vs w g o g' e1).trans q4,q5,q6⟩
theorem Mk.put (h:Mk k e off L bs w i q wr)(hn:bs.flatten.Nodup)(hi:i<L.length){g n cap:Nat}(e1:L[i]= .slice (some ⟨g,0,none⟩) n cap)(hq:q<n)(vs:List Value)(hk:vs.length=k)(cM:vs[off]? =some (.int .i64 (-1000-(i:Int)))):
  ∃cur,wr.heap[g]? =some (.cells cur e (0,0))/\q*k+k<=cur.size/\Mk k e off L bs w i (q+1) (wr.setCells g (q*k) vs):=by
 obtain ⟨hm,cur,c1,c2,c3,c4⟩:=Ki h.lis hi e1;have fk:q*k+k<=cap*k:=by
  have:(q+1)*k<=cap*k:=ZE k (by omega)
  rwa [TM,YF] at this
 have aq2:off<k:=by
  rw [<-hk];rcases Sk off vs.length with h | h
  ·exact h
  rw [Z3 h] at cM;cases cM
 obtain ⟨r1,r2,r3,r4⟩:=Ms vs wr g (q*k);refine ⟨cur,c1,by rw [c2];exact fk,⟨h.kx.trans ⟨r1,r2,r3,Yy r4.symm,λy _ hy=>NB _ _ _ _ _ λe=>hy (e▸hm)⟩,XI h.lis c1 _ _,λj hj ad m cp e2 p hp hlt=> ?_⟩⟩;by_cases bZ:j=i
 ·subst bZ;rw [e1] at e2;injection e2 with e2 e3 e4;refine ⟨g,e2.symm,?_⟩;by_cases wH:p=q
  ·subst wH;rw [World.cell?_setCells_in g vs (p*k) wr (λc hc=>yh1 c1 (by omega)) off (by omega)];rw [PR (by omega)] at cM;exact cM
  obtain ⟨g',d1,d2⟩:=h.don j hj _ _ _ e1 p (by omega) (by omega);injection d1 with d1;injection d1 with d1;subst d1;rw [World.cell?_setCells_out g vs (q*k) wr ⟨g,p*k+off,none⟩ λ_ _=> .inl ?_]
  ·exact d2
  show p*k+off<q*k;have:(p+1)*k<=q*k:=ZE k (by omega);rw [TM,YF] at this;omega
 obtain ⟨g',d1,d2⟩:=h.don j hj ad m cp e2 p hp (by omega);subst d1;refine ⟨g',rfl,?_⟩;rw [Qm (NB vs wr g (q*k) g' λe=>Y' h.lis hn hi hj (λq=>bZ q.symm) e1 e2 e.symm)];exact d2
theorem Mk.brs (h:Mk k e off L bs w L.length q wr)(hs:∀i (h:i<L.length) ad n cap,L[i]= .slice ad n cap->n<=1000000):SZ wr k off L:=λi hi=>by
 obtain ⟨ad,n,cap,q1,q2⟩:=h.lis.2 i hi (by rw [h.lis.1];exact hi);refine ⟨ad,n,cap,q1,?_,hs i hi ad n cap q1,λp hp=>h.don i hi ad n cap q1 p hp (.inl hi)⟩;rcases q2 with ⟨_,h1,h2,_⟩ | ⟨_,_,_,_,_,_,h1,_⟩<;>omega
theorem QH.on (h:QH w k e L bs)(hk:∀b∈bs.flatten,w'.heap[b]? =w.heap[b]?):QH w' k e L bs:=⟨h.1,λi hi aB=>by
 obtain ⟨ad,n,cap,q1,q2⟩:=h.2 i hi aB;exact ⟨ad,n,cap,q1,q2.on λb hb=>hk b (RF.2 ⟨_,Px aB,hb⟩)⟩⟩
theorem QH.brs (h:QH w k e L bs)(hb:SZ w k off L)(hk:∀b∈bs.flatten,w'.heap[b]? =w.heap[b]?):SZ w' k off L:=λi hi=>by
 obtain ⟨ad,n,cap,q1,q2,q3,q4⟩:=hb i hi;refine ⟨ad,n,cap,q1,q2,q3,λp hp=> ?_⟩;obtain ⟨g,rfl,q5⟩:=q4 p hp;exact ⟨g,rfl,(Qm (hk g (Ki h hi q1).1) _).trans q5⟩
theorem QH.lt (h:QH w k e L bs):∀b∈bs.flatten,b<w.heap.size:=λb hb=>by
 obtain ⟨c,hc,hb⟩:=RF.1 hb;obtain ⟨i,hi,rfl⟩:=RO hc;obtain ⟨ad,n,cap,q1,q2⟩:=h.2 i (by rw [<-h.1];exact hi) hi;rcases q2 with ⟨_,_,_,q2⟩ | ⟨g,cur,_,q3,q4,_⟩
 ·rw [q2] at hb;simp at hb
 rw [q3,Ra] at hb;subst hb;exact PV q4
end
