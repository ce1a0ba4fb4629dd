import Derived.Test.YtpdmkhnonbbhnaaGreatMvx
import Derived.Test.YtpdmkhnonbbhnaaGreatVl
import Derived.Test.YtpdmkhnonbbhnaaGreatVd
import Derived.Test.YtpdmkhnonbbhnaaGreatMnx
import Derived.Test.YtpdmkhnonbbhnaaGreatMqx
namespace Go.Proofs.YtpdmkhnonbbhnaaGreat
open Go.RowKit Go.Maps
set_option maxHeartbeats 16000000
set_option maxRecDepth 10000
section
variable {w V V':World}{F lo hi n1 c1 n2 c2:Nat}{x:Value}{ad1 ad2:Option Addr}
def Rv:Array Value:= #[.int .i64 0,.int .i64 0,.slice none 0 0,.slice none 0 0,.slice none 0 0]
def RQ:Array Value:= #[.bool false,.slice none 0 0,.slice none 0 0]
structure Cq (w V:World):Prop where
 below:Below w.heap.size w V
 tree:V.heap[w.heap.size]? =some (.cells Rv 30 (0,0))
 cov:V.heap[w.heap.size+1]? =some (.cells RQ 33 (0,0))
theorem Cq.lt (h:Cq w V):w.heap.size+2<=V.heap.size:=by have:=PV h.cov;omega
theorem Cq.on (h:Cq w V)(hb:Below V.heap.size V V'):Cq w V':=by
 have hl:=h.lt;exact ⟨h.below.trans (hb.mono h.below.size),(hb.block _ (by omega)).trans h.tree,(hb.block _ (by omega)).trans h.cov⟩
theorem Cq.kx {m:Nat}(h:Cq w V)(hm:w.heap.size+2<=m)(hk:Kx m V V'):Cq w V':=by
 have hl:=h.lt;exact ⟨h.below.trans (hk.below (by omega) (by omega)),(hk.block _ (by omega) (by omega)).trans h.tree,(hk.block _ (by omega) (by omega)).trans h.cov⟩
theorem Cq.start (w:World):Cq w ((w.alloc (.cells Rv 30)).alloc (.cells RQ 33)):=by
 refine ⟨((Pb _ _).alloc (P6 _) _).alloc (by simp) _,?_,?_⟩
 ·rw [Qq _ _ _ (by simp)];exact PF w _
 have:=PF (w.alloc (.cells Rv 30)) (.cells RQ 33)
 rwa [Sb] at this
def Tx (w V:World)(a0 a1 a2 a3 a4 b0 b1 b2:Value):World:=(((((((V.setCell ⟨w.heap.size,0,none⟩ a0).setCell ⟨w.heap.size,1,none⟩ a1).setCell ⟨w.heap.size,2,none⟩ a2).setCell ⟨w.heap.size,3,none⟩ a3).setCell ⟨w.heap.size,4,none⟩ a4).setCell ⟨w.heap.size+1,0,none⟩ b0).setCell ⟨w.heap.size+1,1,none⟩ b1).setCell ⟨w.heap.size+1,2,none⟩ b2
theorem Cq.store (h:Cq w V)(a0 a1 a2 a3 a4 b0 b1 b2:Value):∃U,U=Tx w V a0 a1 a2 a3 a4 b0 b1 b2/\U.heap[w.heap.size]? =some (.cells #[a0,a1,a2,a3,a4] 30 (0,0))/\U.heap[w.heap.size+1]? =some (.cells #[b0,b1,b2] 33 (0,0))/\Below w.heap.size w U/\U.heap.size=V.heap.size/\∀y,y≠w.heap.size->y≠w.heap.size+1->U.heap[y]? =V.heap[y]? :=by
 have e0:=Q5 (i:=0) (v:=a0) h.tree;have e1:=Q5 (i:=1) (v:=a1) e0;have e2:=Q5 (i:=2) (v:=a2) e1;have e3:=Q5 (i:=3) (v:=a3) e2;have e4:=Q5 (i:=4) (v:=a4) e3;have q:((((Rv.setIfInBounds 0 a0).setIfInBounds 1 a1).setIfInBounds 2 a2).setIfInBounds 3 a3).setIfInBounds 4 a4= #[a0,a1,a2,a3,a4]:=rfl;rw [q] at e4;obtain ⟨V5,Az⟩:∃V5,V5=((((V.setCell ⟨w.heap.size,0,none⟩ a0).setCell ⟨w.heap.size,1,none⟩ a1).setCell ⟨w.heap.size,2,none⟩ a2).setCell ⟨w.heap.size,3,none⟩ a3).setCell ⟨w.heap.size,4,none⟩ a4:=⟨_,rfl⟩;rw [<-Az] at e4;have o5:∀y,y≠w.heap.size->V5.heap[y]? =V.heap[y]? :=λy hy=>by
  rw [Az,PX _ _ _ _ hy,PX _ _ _ _ hy,PX _ _ _ _ hy,PX _ _ _ _ hy,PX _ _ _ _ hy]
 have s5:V5.heap.size=V.heap.size:=by rw [Az];simp [World.setCell]
 have b5:Below w.heap.size w V5:=by
  rw [Az];exact ((((h.below.setCell (p:=⟨w.heap.size,0,none⟩) (P6 _) _).setCell (p:=⟨w.heap.size,1,none⟩) (P6 _) _).setCell (p:=⟨w.heap.size,2,none⟩) (P6 _) _).setCell (p:=⟨w.heap.size,3,none⟩) (P6 _) _).setCell (p:=⟨w.heap.size,4,none⟩) (P6 _) _
 have c5:=(o5 (w.heap.size+1) (by omega)).trans h.cov;have f0:=Q5 (i:=0) (v:=b0) c5;have f1:=Q5 (i:=1) (v:=b1) f0;have f2:=Q5 (i:=2) (v:=b2) f1;have q2:((RQ.setIfInBounds 0 b0).setIfInBounds 1 b1).setIfInBounds 2 b2= #[b0,b1,b2]:=rfl;rw [q2] at f2;have hU:Tx w V a0 a1 a2 a3 a4 b0 b1 b2=((V5.setCell ⟨w.heap.size+1,0,none⟩ b0).setCell ⟨w.heap.size+1,1,none⟩ b1).setCell ⟨w.heap.size+1,2,none⟩ b2:=by rw [Az];rfl
 refine ⟨_,rfl,?_,?_,?_,?_,λy h1 h2=> ?_⟩
 ·rw [hU,PX _ _ _ _ (by show w.heap.size≠w.heap.size+1;omega),PX _ _ _ _ (by show w.heap.size≠w.heap.size+1;omega),PX _ _ _ _ (by show w.heap.size≠w.heap.size+1;omega)];exact e4
 ·rw [hU];exact f2
 ·rw [hU];exact ((b5.setCell (p:=⟨w.heap.size+1,0,none⟩) (by show w.heap.size<=w.heap.size+1;omega) _).setCell (p:=⟨w.heap.size+1,1,none⟩) (by show w.heap.size<=w.heap.size+1;omega) _).setCell (p:=⟨w.heap.size+1,2,none⟩) (by show w.heap.size<=w.heap.size+1;omega) _
 ·rw [hU];simp [World.setCell,s5]
 rw [hU,PX _ _ _ _ h2,PX _ _ _ _ h2,PX _ _ _ _ h2];exact o5 y h1
theorem Cq.cells (h:Cq w V):(V.cell? ⟨w.heap.size,0,none⟩=some (.int .i64 0)/\V.cell? ⟨w.heap.size,1,none⟩=some (.int .i64 0)/\V.cell? ⟨w.heap.size,2,none⟩=some (.slice none 0 0)/\V.cell? ⟨w.heap.size,3,none⟩=some (.slice none 0 0)/\V.cell? ⟨w.heap.size,4,none⟩=some (.slice none 0 0))/\(V.cell? ⟨w.heap.size+1,0,none⟩=some (.bool false)/\V.cell? ⟨w.heap.size+1,1,none⟩=some (.slice none 0 0)/\V.cell? ⟨w.heap.size+1,2,none⟩=some (.slice none 0 0))/\(∀o,V.frozen? ⟨w.heap.size,o,none⟩=false)/\∀o,V.frozen? ⟨w.heap.size+1,o,none⟩=false:=
 ⟨⟨P0 h.tree rfl,P0 h.tree rfl,P0 h.tree rfl,P0 h.tree rfl,P0 h.tree rfl⟩,⟨P0 h.cov rfl,P0 h.cov rfl,P0 h.cov rfl⟩,λ_=>Pp h.tree,λ_=>Pp h.cov⟩
structure Ct (F:Nat)(w:World)(S:Nat->Prop)(fv:Value)(b:Nat)(k:Kn)(t:Tr F)(nodes Kb Mb:Nat)(x:Value)(V:World):Prop where
 cq:Cq w V
 low:w.heap.size+2<=Kb/\w.heap.size+2<=Mb
 kb:V.heap[Kb]? =some (.cells #[fv,.map (some b)] 69 (0,0))
 mb:V.heap[Mb]? =some (.cells #[fv,.map (some b),.int .i64 nodes] 76 (0,0))
 map:PP V b k
 tree:PL V (λy=>w.heap.size+2<=y/\y<V.heap.size) F x t
 own:TN V (w.heap.size+2) V.heap.size F x
theorem Ct.on {S:Nat->Prop}{fv:Value}{b:Nat}{k:Kn}{t:Tr F}{nodes Kb Mb:Nat}(h:Ct F w S fv b k t nodes Kb Mb x V)(hb:Below V.heap.size V V'):Ct F w S fv b k t nodes Kb Mb x V':=
 ⟨h.cq.on hb,h.low,(hb.block _ (PV h.kb)).trans h.kb,(hb.block _ (PV h.mb)).trans h.mb,h.map.on (hb.block b (Mv.lt h.map)),PL.below (λy hy=>hb.block y hy.2) (λ_ hy=>⟨hy.1,PQ hy.2 hb.size⟩) F x t h.tree,h.own.on (λy _ h2=>hb.block y h2) (P6 _) hb.size⟩
theorem aw1 (hF:F=5001){w:World}{S:Nat->Prop}{k:Kn}{fs:List Pu}{rows:List (List Pt)}{fa:Option Addr}{fc b Kb:Nat}{fP:Option Addr}{ci:Nat}(aF:Po 0 [] fs=some k)(j9:UO k rows)(hl:rows.length<=200)(cj:∀r∈rows,r.length<=16){w4:World}{v4:Value}(hS:∀y,S y->y<w.heap.size)(hq:Cq w w4)(hK:w.heap.size+2<=Kb)(fZ:w4.heap[Kb]? =some (.cells #[.slice fa fs.length fc,.map (some b)] 69 (0,0)))(hM:PP w4 b k)(bj6:PH w4 S (.slice fa fs.length fc) fs)(hC:Qw w4 (λy=>S y\/(w.heap.size+2<=y/\y<w4.heap.size)) v4 (QA [] (rows.headD []).length (Qy rows))):
  ∃W5,W5=w4.alloc (.cells #[.slice fa fs.length fc,.map (some b),.int .i64 0] 76)/\Calls Tryz.prog 30 #[.slice fP rows.length ci] W5 λr w6=>∃v6,r= .returned v6/\Calls Tryz.prog 29 #[.pointer (some ⟨w4.heap.size,0,none⟩),v4,v6] w6 λr w7=>∃a b' pa pl pc ca cl cc ea el ec,r= .returned (.agg #[.int .i64 a,.int .i64 b',.slice pa pl pc,.slice ca cl cc,.slice ea el ec])/\Ct F w S (.slice fa fs.length fc) b k (Pj F k fs rows).1 (Pj F k fs rows).2 Kb w4.heap.size (.agg #[.int .i64 a,.int .i64 b',.slice pa pl pc,.slice ca cl cc,.slice ea el ec]) w7:=by
 have hk:=SJ aF;refine ⟨_,rfl,?_⟩;obtain ⟨W5,cQ⟩:∃W5,W5=w4.alloc (.cells #[.slice fa fs.length fc,.map (some b),.int .i64 0] 76):=⟨_,rfl⟩;rw [<-cQ];have hb5:Below w4.heap.size w4 W5:=by rw [cQ];exact (Pb _ _).alloc (P6 _) _
 have iI:W5.heap.size=w4.heap.size+1:=by rw [cQ];simp
 have F4:W5.heap[w4.heap.size]? =some (.cells #[.slice fa fs.length fc,.map (some b),.int .i64 0] 76 (0,0)):=by rw [cQ];exact PF w4 _
 have hlt:=hq.lt;refine Pe (vt1 (w:=W5) fP rows.length ci hl) ?_;rintro r w6 ⟨hb6,v6,rfl,hv6⟩;refine ⟨v6,rfl,?_⟩;have AA:=hb6.size;have lS:Below w4.heap.size w4 w6:=hb5.trans (hb6.mono (by omega));have ch7:Cq w w6:=hq.on lS;have yQ:∀y,S y->y<w4.heap.size:=λy hy=>by have:=hS y hy;omega
 have cw:∀m,∀c∈QA [] (rows.headD []).length (Qy rows),Good k m c:=λm c hc=>Z6 hl hc (j9.2 c hc _) m;have dR:(rows.headD []).length<=16:=by
  cases hr:rows with
  | nil=>simp
  | cons a r=>exact cj a (by rw [hr];simp)
 have bh:TreeIn k fs fa fc b w4.heap.size F 0 (QA [] (rows.headD []).length (Qy rows)) (List.range rows.length) v4 v6 (λy=>(S y\/(w.heap.size+2<=y/\y<w4.heap.size))\/(W5.heap.size<=y/\y<w6.heap.size)) w6:=by
  refine ⟨by omega,by omega,(hb6.block _ (by omega)).trans F4,?_,hM.on (lS.block b (Mv.lt hM)),by have:=Mv.lt hM;omega,(bj6.on (OZ.of lS yQ)).up λy hy=> .inl (.inl hy),(hC.on (OZ.of lS λy hy=> ?_)).up λy hy=> .inl hy,hv6.up λy hy=> .inr hy,λc hc=>cw _ c hc,PZ (aa1 _ _ _) (by omega),Dp,λr hr=>by rw [T2] at hr;omega⟩
  ·rintro y ((hy | hy) | hy)
   ·have:=yQ y hy;exact ⟨by omega,by omega⟩
   ·exact ⟨by omega,by omega⟩
   exact ⟨by omega,by omega⟩
  rcases hy with hy | hy
  ·exact yQ y hy
  exact hy.2
 refine Pe (rg0 hk F 0 _ _ _ _ _ _ bh) ?_;rintro r w7 ⟨hk7,hm7,_,x,rfl,hx7,ho7⟩;obtain ⟨a,b',pa,pl,pc,ca,cl,cc,ea,el,ec,rfl⟩:=hx7.parts;refine ⟨a,b',pa,pl,pc,ca,cl,cc,ea,el,ec,rfl,ch7.kx hlt hk7,⟨hK,hlt⟩,?_,hm7,?_,?_,?_⟩
 ·have:=PV fZ;exact (hk7.block Kb (by omega) (by omega)).trans ((lS.block Kb (by omega)).trans fZ)
 ·have:=Mv.lt hM;exact hM.on ((hk7.block b (by omega) (by omega)).trans (lS.block b (by omega)))
 ·exact PL.below (OZ.refl _ _) (λy hy=>⟨by omega,hy.2⟩) F _ _ hx7
 exact ho7.on (λ_ _ _=>rfl) (by omega) (P6 _)
def UF (w:World)(lo hi F:Nat)(x:Value)(ad1:Option Addr)(n1 c1:Nat)(ad2:Option Addr)(n2 c2:Nat):Prop:=∃bt bi bm d,T1 w F x bt/\QG w 1 3 ad1 n1 c1 bi/\Ux w d (.slice ad2 n2 c2) bm/\(bt++(bi++bm)).Nodup/\∀b∈bt++(bi++bm),lo<=b/\b<hi
theorem UF.on {w':World}{np aB:Nat}(h:UF w lo hi F x ad1 n1 c1 ad2 n2 c2)(hk:∀y,lo<=y->y<hi->w'.heap[y]? =w.heap[y]?)(hl:np<=lo)(hh:hi<=aB):UF w' np aB F x ad1 n1 c1 ad2 n2 c2:=by
 obtain ⟨bt,bi,bm,d,h0,h1,h2,h3,h4⟩:=h;have k:∀b∈bt++(bi++bm),w'.heap[b]? =w.heap[b]? :=λb hb=>hk b (h4 b hb).1 (h4 b hb).2;exact ⟨bt,bi,bm,d,T1.on F x bt h0 λb hb=>k b (by simp [hb]),h1.on λb hb=>k b (by simp [hb]),Ux.on d _ _ h2 λb hb=>k b (by simp [hb]),h3,λb hb=>⟨by have:=(h4 b hb).1;omega,by have:=(h4 b hb).2;omega⟩⟩
theorem YL {mid F5:Nat}(h:TN w lo mid F x)(h':YE w F5 hi ad1 n1 c1 ad2 n2 c2)(hm:mid<=F5)(iR:lo<=mid)(Cj:F5<=hi):UF w lo hi F x ad1 n1 c1 ad2 n2 c2:=by
 obtain ⟨bt,t1,t2,t3⟩:=h;obtain ⟨bi,bm,d,h1,h2,h3,h4⟩:=h';refine ⟨bt,bi,bm,d,t1,h1,h2,?_,λb hb=> ?_⟩
 ·rw [S7];refine ⟨t2,h3,λa ha b hb e=> ?_⟩;have:=t3 a ha;have:=h4 b hb;omega
 rcases PE.1 hb with hb | hb
 ·have:=t3 b hb;omega
 have:=h4 b hb;omega
def ta0 (F:Nat)(fs:List Pu)(rows:List (List Pt))(w:World)(r:Ending)(w':World):Prop:=Below w.heap.size w w'/\
 ((∃e:Int,RR F fs rows e none/\e≠0/\r= .returned (.tuple #[.agg Rv,.agg RQ,.int .i64 e]))\/
   ∃(t:Tr F) (c:Cv F) (x:Value) (ad1:Option Addr) (c1:Nat) (ad2:Option Addr) (c2:Nat),RR F fs rows 0 (some (t,c))/\r= .returned (.tuple #[x,.agg #[.bool c.1,.slice ad1 c.2.1.length c1,.slice ad2 c.2.2.length c2],.int .i64 0])/\PL w' (λy=>w.heap.size<=y/\y<w'.heap.size) F x t/\Pv w' (λy=>w.heap.size<=y/\y<w'.heap.size) (.slice ad1 c.2.1.length c1) c.2.1/\Pl w' (λy=>w.heap.size<=y/\y<w'.heap.size) (.slice ad2 c.2.2.length c2) (c.2.2.map λu=>(⟨F+1,u⟩:Pt))/\UF w' w.heap.size w'.heap.size F x ad1 c.2.1.length c1 ad2 c.2.2.length c2)
theorem zq (hF:F=5001){w:World}{S:Nat->Prop}(fs:List Pu)(rows:List (List Pt))(fa:Option Addr)(fc:Nat)(rv:Value)(hS:∀b,S b->b<w.heap.size)(ee:PH w S (.slice fa fs.length fc) fs)(hR:RH w S rv rows)(aY:fs.length<=100000)(sV:(fs.map λf=>f.1.length).sum<=10000)(hsz:(rows.map Q6).sum<=100000):
  Calls Tryz.prog 9 #[.slice fa fs.length fc,rv] w (ta0 F fs rows w):=by
 have HF:=P4 hF;clear hF;have jJ:=Cq.start w;unfold Rv RQ at jJ;obtain ⟨W,hW⟩:∃W,W=(w.alloc (.cells #[.int .i64 0,.int .i64 0,.slice none 0 0,.slice none 0 0,.slice none 0 0] 30)).alloc (.cells #[.bool false,.slice none 0 0,.slice none 0 0] 33):=⟨_,rfl⟩;rw [<-hW] at jJ;have gq:=P4 jJ;obtain ⟨fP,ci,rfl⟩:=Pd.len hR;have br:=Oh hS ee hR aY sV hsz;have eS:Hid (∀V,Cq w V->(∀b,S b->b<V.heap.size)/\OZ S w V):=λV hV=>⟨λy hy=>by have:=hS y hy;have:=hV.below.size;omega,OZ.of hV.below hS⟩;have CL:=VC (w:=W) (S:=S) _ rows (hR.on (eS.out W jJ).2) (eS.out W jJ).1;clear hS ee hR aY sV hsz jJ;cases hlong:Rh rows with
 | true=>
  rw [hlong] at CL;have cE:Hid (RR F fs rows 2 none):= .inl ⟨hlong,rfl,rfl⟩;clear hlong;go_enter Tryz.func9,Tryz.ntmps9
  go_upto_region 1 with fail
  rw [<-hW];clear hW
  go_upto_region 2 with (first | (go_at_call 26;(with_reducible refine Pe CL ?_);rintro e' w1 ⟨rfl,hb1⟩))
  have HQ:=P4 (gq.on hb1);clear hb1;obtain ⟨⟨g0,g1,g2,g3,g4⟩,⟨h0,h1,h2⟩,zt,zc⟩:=HQ.cells;have z0:=zt 0;have z1:=zt 1;have z2:=zt 2;have z3:=zt 3;have z4:=zt 4;have y0:=zc 0;have y1:=zc 1;have y2:=zc 2;obtain ⟨U,hU,aN,bG,aZ,_,_⟩:=HQ.store (.int .i64 0) (.int .i64 0) (.slice none 0 0) (.slice none 0 0) (.slice none 0 0) (.bool false) (.slice none 0 0) (.slice none 0 0);unfold Tx at hU;have eK:=P4 aZ;clear zt zc aZ;go_wp2;rw [<-hU];have u0:=P0 (i:=0) aN rfl;have u1:=P0 (i:=1) aN rfl;have u2:=P0 (i:=2) aN rfl;have u3:=P0 (i:=3) aN rfl;have u4:=P0 (i:=4) aN rfl;have v0:=P0 (i:=0) bG rfl;have v1:=P0 (i:=1) bG rfl;have v2:=P0 (i:=2) bG rfl;refine Qv (v:= .tuple #[.agg Rv,.agg RQ,.int .i64 2]) (by simp [results,Tryz.results9,go_sem,u0,u1,u2,u3,u4,v0,v1,v2,Rv,RQ]) rfl ?_;exact ⟨eK.out,.inl ⟨2,cE.out,by decide,rfl⟩⟩
 | false=>
  rw [hlong] at CL;have lm:=P4 hlong;clear hlong;have td:rows.length<=200/\∀r∈rows,r.length<=16:=by
   have:=lm.out;unfold Rh at this;rw [OJ,La,OQ] at this;refine ⟨by omega,λr hr=> ?_⟩;have:=this.2 r hr;simp at this;omega
  have cX:=P4 td;clear td;have BG:Hid (∀w1,Below W.heap.size W w1->Calls Tryz.prog 27 #[.slice fa fs.length fc] w1 (VR w1 (.slice fa fs.length fc) fs)):=λw1 hb1=>by
   have hq:=gq.on hb1;exact ag1 fa fs fc (eS.out w1 hq).1 (br.2.1.on (eS.out w1 hq).2) br.2.2.2.1 br.2.2.2.2.1
  go_enter Tryz.func9,Tryz.ntmps9
  go_upto_region 1 with fail
  rw [<-hW];clear hW
  go_upto_region 3 with (first | (go_at_call 26;(with_reducible refine Pe CL ?_);rintro e' w1 ⟨rfl,hb1⟩))
  have tH:=P4 (gq.on hb1);have CK:=BG.out w1 hb1;clear hb1 CL BG gq;cases aF:Po 0 [] fs with
  | none=>
   have cE:Hid (RR F fs rows 70 none):= .inr ⟨lm.out,.inl ⟨aF,rfl,rfl⟩⟩;have C0:Calls Tryz.prog 27 #[.slice fa fs.length fc] w1 λr w'=>r= .returned (.tuple #[.agg #[.slice none 0 0,.map none],.bool false])/\Below w1.heap.size w1 w':=Pe CK λr w' h=>by
    obtain ⟨hb,⟨k,b,h1,_⟩ | ⟨_,h2⟩⟩:=h
    ·rw [aF] at h1;cases h1
    exact ⟨h2,hb⟩
   clear aF CK
   go_upto_region 5 with (first | (go_at_call 27;(with_reducible refine Pe C0 ?_);rintro e' w2 ⟨rfl,hb2⟩))
   have HQ:Hid (Cq w (w2.alloc (.cells #[.slice none 0 0,.map none] 69))):=(tH.on hb2).on ((Pb _ _).alloc (P6 _) _);generalize hw3:w2.alloc (.cells #[.slice none 0 0,.map none] 69)=W3 at *
   clear hw3 hb2;obtain ⟨⟨g0,g1,g2,g3,g4⟩,⟨h0,h1,h2⟩,zt,zc⟩:=HQ.cells;have z0:=zt 0;have z1:=zt 1;have z2:=zt 2;have z3:=zt 3;have z4:=zt 4;have y0:=zc 0;have y1:=zc 1;have y2:=zc 2;obtain ⟨U,hU,aN,bG,aZ,_,_⟩:=HQ.store (.int .i64 0) (.int .i64 0) (.slice none 0 0) (.slice none 0 0) (.slice none 0 0) (.bool false) (.slice none 0 0) (.slice none 0 0);unfold Tx at hU;have eK:=P4 aZ;clear zt zc aZ;go_wp2;rw [<-hU];have u0:=P0 (i:=0) aN rfl;have u1:=P0 (i:=1) aN rfl;have u2:=P0 (i:=2) aN rfl;have u3:=P0 (i:=3) aN rfl;have u4:=P0 (i:=4) aN rfl;have v0:=P0 (i:=0) bG rfl;have v1:=P0 (i:=1) bG rfl;have v2:=P0 (i:=2) bG rfl;refine Qv (v:= .tuple #[.agg Rv,.agg RQ,.int .i64 70]) (by simp [results,Tryz.results9,go_sem,u0,u1,u2,u3,u4,v0,v1,v2,Rv,RQ]) rfl ?_;exact ⟨eK.out,.inl ⟨70,cE.out,by decide,rfl⟩⟩
  | some k=>
   have Iy:=SJ aF;have C0:Calls Tryz.prog 27 #[.slice fa fs.length fc] w1 λr w'=>∃b,r= .returned (.tuple #[.agg #[.slice fa fs.length fc,.map (some b)],.bool true])/\Below w1.heap.size w1 w'/\PP w' b k:=Pe CK λr w' h=>by
    obtain ⟨hb,⟨k',b,h1,h2,_,h4⟩ | ⟨h1,_⟩⟩:=h
    ·rw [aF] at h1;obtain rfl:=Qs h1;exact ⟨b,h2,hb,h4⟩
    rw [aF] at h1;cases h1
   have cN:=Qh aF Iy;clear aF CK Iy
   go_upto_region 6 with (first | (go_at_call 27;(with_reducible refine Pe C0 ?_);rintro e' w2 ⟨b,rfl,hb2,hm2⟩))
   have lE:=tH.on hb2;obtain ⟨W3,eC⟩:∃W3,W3=w2.alloc (.cells #[.slice fa fs.length fc,.map (some b)] 69):=⟨_,rfl⟩;rw [<-eC];have hb3:Below w2.heap.size w2 W3:=by rw [eC];exact (Pb _ _).alloc (P6 _) _
   have hk3:W3.heap[w2.heap.size]? =some (.cells #[.slice fa fs.length fc,.map (some b)] 69 (0,0)):=by rw [eC];exact PF w2 _
   have mD:Hid (Cq w W3/\PP W3 b k/\W3.heap[w2.heap.size]? =some (.cells #[.slice fa fs.length fc,.map (some b)] 69 (0,0))/\w.heap.size+2<=w2.heap.size):=⟨lE.on hb3,hm2.on (hb3.block b (Mv.lt hm2)),hk3,lE.lt⟩;have CR:=aq1 (w:=W3) (S:=S) fa fs.length fc (.slice fP rows.length ci) rows cN.2 (eS.out W3 mD.1).1 mD.2.1 (br.2.2.1.on (eS.out W3 mD.1).2) cX.1 cX.2 br.2.2.2.2.2;have Iz:=P0 (i:=0) hk3 rfl;have IA:=P0 (i:=1) hk3 rfl;generalize Di:w2.heap.size=Kb at *
   clear lE eC hb3 hk3 hm2 hb2 Di C0 tH;by_cases j9:UO k rows
   ·have AB:Calls Tryz.prog 28 #[.agg #[.slice fa fs.length fc,.map (some b)],.slice fP rows.length ci] W3 λr w'=>∃v,r= .returned (.tuple #[v,.bool true])/\Below W3.heap.size W3 w'/\Qw w' (λb=>S b\/(W3.heap.size<=b/\b<w'.heap.size)) v (QA [] (rows.headD []).length (Qy rows)):=Pe CR λr w' h=>by
     obtain ⟨hb,⟨⟨x,hx,am⟩,_⟩ | ⟨_,v,a,h2,h3,h4⟩⟩:=h
     ·exact absurd (j9.1 x hx) am
     obtain rfl:a=true:=h4.2 j9.2;exact ⟨v,h2,hb,h3⟩
    have kr:=P4 j9;have IB:Hid (∀w4 v4,Below W3.heap.size W3 w4->Qw w4 (λb=>S b\/(W3.heap.size<=b/\b<w4.heap.size)) v4 (QA [] (rows.headD []).length (Qy rows))->(w4.cell? ⟨Kb,0,none⟩=some (.slice fa fs.length fc)/\w4.cell? ⟨Kb,1,none⟩=some (.map (some b)))/\∃W5,W5=w4.alloc (.cells #[.slice fa fs.length fc,.map (some b),.int .i64 0] 76)/\Calls Tryz.prog 30 #[.slice fP rows.length ci] W5 λr w6=>∃v6,r= .returned v6/\Calls Tryz.prog 29 #[.pointer (some ⟨w4.heap.size,0,none⟩),v4,v6] w6 λr w7=>∃a b' pa pl pc ca cl cc ea el ec,r= .returned (.agg #[.int .i64 a,.int .i64 b',.slice pa pl pc,.slice ca cl cc,.slice ea el ec])/\Ct F w S (.slice fa fs.length fc) b k (Pj F k fs rows).1 (Pj F k fs rows).2 Kb w4.heap.size (.agg #[.int .i64 a,.int .i64 b',.slice pa pl pc,.slice ca cl cc,.slice ea el ec]) w7):=λw4 v4 hb4 jA=>by
     have h3:=mD.out;have uU:=(hb4.block Kb (PV h3.2.2.1)).trans h3.2.2.1;have IC:=h3.1.on hb4;refine ⟨⟨P0 uU rfl,P0 uU rfl⟩,?_⟩;exact aw1 HF.out cN.1 kr.out cX.1 cX.2 br.1 IC h3.2.2.2 uU (h3.2.1.on (hb4.block b (Mv.lt h3.2.1))) (br.2.1.on (eS.out w4 IC).2) (jA.up λy hy=>hy.imp_right λe=>⟨by have:=h3.1.lt;omega,e.2⟩)
    clear CR j9
    go_upto_region 9 with (first | (go_at_call 28;(with_reducible refine Pe AB ?_);rintro e' w4 ⟨v4,rfl,hb4,jA⟩))
    obtain ⟨⟨k0,k1⟩,W5,cQ,CN⟩:=IB.out w4 v4 hb4 jA;obtain ⟨ck2,ccap,rfl⟩:=Pd.len jA;clear jA hb4 IB AB Iz IA;generalize (QA [] (rows.headD []).length (Qy rows)).length=cn at *
    go_upto_region 10 with fail
    rw [<-cQ];clear cQ;generalize bv5:w4.heap.size=Mb at *
    clear bv5
    go_upto_region 11 with (first | (go_at_call 30;(with_reducible refine Pe CN ?_);rintro e' w6 ⟨v6,rfl,CT⟩) | (go_at_call 29;(with_reducible refine Pe CT ?_);rintro e' w7 ⟨ta,tb,pa,pl,pc,ca,cl,cc,ea,el,ec,rfl,hct⟩))
    have sR:=P4 hct;clear hct CN k0 k1;obtain ⟨W8,qf⟩:∃W8,W8=w7.alloc (.cells #[.int .i64 ta,.int .i64 tb,.slice pa pl pc,.slice ca cl cc,.slice ea el ec] 30):=⟨_,rfl⟩;rw [<-qf];have hb8:Below w7.heap.size w7 W8:=by rw [qf];exact (Pb _ _).alloc (P6 _) _
    have wL:W8.heap[w7.heap.size]? =some (.cells #[.int .i64 ta,.int .i64 tb,.slice pa pl pc,.slice ca cl cc,.slice ea el ec] 30 (0,0)):=by rw [qf];exact PF w7 _
    have dX:=P4 (sR.on hb8);have iH:Hid (W8.heap[w7.heap.size]? =some (.cells #[.int .i64 ta,.int .i64 tb,.slice pa pl pc,.slice ca cl cc,.slice ea el ec] 30 (0,0))/\w.heap.size+2<=w7.heap.size):=⟨wL,sR.cq.lt⟩;have m2:=P0 (i:=2) dX.mb rfl;clear qf hb8 wL sR;generalize yZ:w7.heap.size=Tb at *
    clear yZ;have iF:Hid (Sm F (Pj F k fs rows).1/\U9 k fs F (Pj F k fs rows).1/\(∀r∈Py F (Pj F k fs rows).1,r<rows.length)/\∀ao,Qx k fs F (Pj F k fs rows).1=some ao->PD (rows.headD []).length ao/\∀s∈ao,s.2.2<=8):=by
     have cw:∀c∈QA [] (rows.headD []).length (Qy rows),Good k 0 c:=λc hc=>Z6 cX.1 hc (kr.2 c hc _) 0;refine ⟨NX k fs F 0 _ _ λc hc=>(cw c hc).len,FG cN.2 (MU cN.1) F 0 _ _ 0 cw,λr hr=> ?_,λao h=>st0 cN.2 F 0 _ _ _ ao h⟩;have:=K4 k fs F 0 _ _ r hr
     rwa [T2] at this
    have C1:Hid (∃T,T=Pj F k fs rows):=⟨_,rfl⟩;by_cases hbig:5000<(Pj F k fs rows).2
    ·have cE:Hid (RR F fs rows 4 none):= .inr ⟨lm.out,.inr ⟨k,cN.1,.inr ⟨kr.out,.inl ⟨hbig,rfl,rfl⟩⟩⟩⟩;have HQ:=P4 dX.cq;have hbi:decide ((5000:Int)<((Pj F k fs rows).2:Int))=true:=by simp;omega
     clear dX iH iF C1;generalize (Pj F k fs rows).2=nodes at *
     have fQ:(5000:Int)<(nodes:Int):=by omega
     clear hbi hbig;obtain ⟨⟨g0,g1,g2,g3,g4⟩,⟨h0,h1,h2⟩,zt,zc⟩:=HQ.cells;have z0:=zt 0;have z1:=zt 1;have z2:=zt 2;have z3:=zt 3;have z4:=zt 4;have y0:=zc 0;have y1:=zc 1;have y2:=zc 2;obtain ⟨U,hU,aN,bG,aZ,_,_⟩:=HQ.store (.int .i64 0) (.int .i64 0) (.slice none 0 0) (.slice none 0 0) (.slice none 0 0) (.bool false) (.slice none 0 0) (.slice none 0 0);unfold Tx at hU;have eK:=P4 aZ;clear zt zc aZ;go_wp2;rw [<-hU];have u0:=P0 (i:=0) aN rfl;have u1:=P0 (i:=1) aN rfl;have u2:=P0 (i:=2) aN rfl;have u3:=P0 (i:=3) aN rfl;have u4:=P0 (i:=4) aN rfl;have v0:=P0 (i:=0) bG rfl;have v1:=P0 (i:=1) bG rfl;have v2:=P0 (i:=2) bG rfl;refine Qv (v:= .tuple #[.agg Rv,.agg RQ,.int .i64 4]) (by simp [results,Tryz.results9,go_sem,u0,u1,u2,u3,u4,v0,v1,v2,Rv,RQ]) rfl ?_;exact ⟨eK.out,.inl ⟨4,cE.out,by decide,rfl⟩⟩
    have oU:Hid ((Pj F k fs rows).2<=5000):=by show _<=_;omega
    have fQ:¬((5000:Int)<((Pj F k fs rows).2:Int)):=by omega
    have CE:=F7 F (by have:=HF.out;omega) (Pj F k fs rows).1 iF.1 W8 (λy=>w.heap.size+2<=y/\y<W8.heap.size) _ (λy hy=>hy.2) dX.tree;have x0:=P0 (i:=0) iH.1 rfl;have x1:=P0 (i:=1) iH.1 rfl;have x2:=P0 (i:=2) iH.1 rfl;have x3:=P0 (i:=3) iH.1 rfl;have x4:=P0 (i:=4) iH.1 rfl;by_cases fB:1000<Pa F (Pj F k fs rows).1
    ·have cE:Hid (RR F fs rows 3 none):= .inr ⟨lm.out,.inr ⟨k,cN.1,.inr ⟨kr.out,.inr ⟨oU.out,.inl ⟨.inl fB,rfl,rfl⟩⟩⟩⟩⟩;have cR:decide ((1000:Int)<(Pa F (Pj F k fs rows).1:Int))=true:=by simp;omega
     have lq:Hid (∀V,Below W8.heap.size W8 V->Cq w V):=λV hV=>dX.cq.on hV;clear dX iH iF C1 oU hbig fB;generalize (Pj F k fs rows).2=nodes at *
     generalize Pa F (Pj F k fs rows).1=rz at *
     go_upto_region 14 with (first | (go_at_call 31;(with_reducible refine Pe CE ?_);rintro e' w9 ⟨rfl,hb9⟩))
     have HQ:=P4 (lq.out w9 hb9);clear hb9 x0 x1 x2 x3 x4 m2 CE lq;obtain ⟨⟨g0,g1,g2,g3,g4⟩,⟨h0,h1,h2⟩,zt,zc⟩:=HQ.cells;have z0:=zt 0;have z1:=zt 1;have z2:=zt 2;have z3:=zt 3;have z4:=zt 4;have y0:=zc 0;have y1:=zc 1;have y2:=zc 2;obtain ⟨U,hU,aN,bG,aZ,_,_⟩:=HQ.store (.int .i64 0) (.int .i64 0) (.slice none 0 0) (.slice none 0 0) (.slice none 0 0) (.bool false) (.slice none 0 0) (.slice none 0 0);unfold Tx at hU;have eK:=P4 aZ;clear zt zc aZ;go_wp2;rw [<-hU];have u0:=P0 (i:=0) aN rfl;have u1:=P0 (i:=1) aN rfl;have u2:=P0 (i:=2) aN rfl;have u3:=P0 (i:=3) aN rfl;have u4:=P0 (i:=4) aN rfl;have v0:=P0 (i:=0) bG rfl;have v1:=P0 (i:=1) bG rfl;have v2:=P0 (i:=2) bG rfl;refine Qv (v:= .tuple #[.agg Rv,.agg RQ,.int .i64 3]) (by simp [results,Tryz.results9,go_sem,u0,u1,u2,u3,u4,v0,v1,v2,Rv,RQ]) rfl ?_;exact ⟨eK.out,.inl ⟨3,cE.out,by decide,rfl⟩⟩
    have oh:Hid (Pa F (Pj F k fs rows).1<=1000):=by show _<=_;omega
    have cR:decide ((1000:Int)<(Pa F (Pj F k fs rows).1:Int))=false:=by simp;omega
    have nF:Hid (∀w9,Below W8.heap.size W8 w9->Calls Tryz.prog 32 #[.slice fP rows.length ci] w9 λe w'=>e= .returned (.bool (RU rows))/\Below w9.heap.size w9 w'):=λw9 hb9=>by
     have hq:=dX.cq.on hb9;exact VN _ rows (br.2.2.1.on (eS.out w9 hq).2) (eS.out w9 hq).1 cX.1 cX.2
    clear fB hbig;cases hdp:RU rows with
    | true=>
     have cE:Hid (RR F fs rows 3 none):= .inr ⟨lm.out,.inr ⟨k,cN.1,.inr ⟨kr.out,.inr ⟨oU.out,.inl ⟨.inr hdp,rfl,rfl⟩⟩⟩⟩⟩;rw [hdp] at nF;have lq:Hid (∀V,Below W8.heap.size W8 V->Cq w V):=λV hV=>dX.cq.on hV;clear dX iH iF C1 oU oh hdp;generalize (Pj F k fs rows).2=nodes at *
     generalize Pa F (Pj F k fs rows).1=rz at *
     go_upto_region 14 with (first | (go_at_call 31;(with_reducible refine Pe CE ?_);rintro e' w9 ⟨rfl,hb9⟩;have CD:=nF.out w9 hb9) | (go_at_call 32;(with_reducible refine Pe CD ?_);rintro e' dC ⟨rfl,hb10⟩))
     have HQ:=P4 ((lq.out w9 hb9).on hb10);clear hb9 hb10 x0 x1 x2 x3 x4 m2 CE lq CD nF;obtain ⟨⟨g0,g1,g2,g3,g4⟩,⟨h0,h1,h2⟩,zt,zc⟩:=HQ.cells;have z0:=zt 0;have z1:=zt 1;have z2:=zt 2;have z3:=zt 3;have z4:=zt 4;have y0:=zc 0;have y1:=zc 1;have y2:=zc 2;obtain ⟨U,hU,aN,bG,aZ,_,_⟩:=HQ.store (.int .i64 0) (.int .i64 0) (.slice none 0 0) (.slice none 0 0) (.slice none 0 0) (.bool false) (.slice none 0 0) (.slice none 0 0);unfold Tx at hU;have eK:=P4 aZ;clear zt zc aZ;go_wp2;rw [<-hU];have u0:=P0 (i:=0) aN rfl;have u1:=P0 (i:=1) aN rfl;have u2:=P0 (i:=2) aN rfl;have u3:=P0 (i:=3) aN rfl;have u4:=P0 (i:=4) aN rfl;have v0:=P0 (i:=0) bG rfl;have v1:=P0 (i:=1) bG rfl;have v2:=P0 (i:=2) bG rfl;refine Qv (v:= .tuple #[.agg Rv,.agg RQ,.int .i64 3]) (by simp [results,Tryz.results9,go_sem,u0,u1,u2,u3,u4,v0,v1,v2,Rv,RQ]) rfl ?_;exact ⟨eK.out,.inl ⟨3,cE.out,by decide,rfl⟩⟩
    | false=>
     have cE:Hid (RR F fs rows 0 (some ((Pj F k fs rows).1,Rq F k fs F (Pj F k fs rows).1 rows))):= .inr ⟨lm.out,.inr ⟨k,cN.1,.inr ⟨kr.out,.inr ⟨oU.out,.inr ⟨⟨oh.out,hdp⟩,rfl,rfl⟩⟩⟩⟩⟩;rw [hdp] at nF;clear hdp
     go_upto_region 15 with (first | (go_at_call 31;(with_reducible refine Pe CE ?_);rintro e' w9 ⟨rfl,hb9⟩;have CD:=nF.out w9 hb9) | (go_at_call 32;(with_reducible refine Pe CD ?_);rintro e' dC ⟨rfl,hb10⟩))
     have uV:=P4 (hb9.trans (hb10.mono hb9.size));have rA:Hid (∀V:World,(∀y,w.heap.size+2<=y->y<W8.heap.size->V.heap[y]? =W8.heap[y]?)->(V.cell? ⟨Tb,0,none⟩=some (.int .i64 ta)/\V.cell? ⟨Tb,1,none⟩=some (.int .i64 tb)/\V.cell? ⟨Tb,2,none⟩=some (.slice pa pl pc)/\V.cell? ⟨Tb,3,none⟩=some (.slice ca cl cc)/\V.cell? ⟨Tb,4,none⟩=some (.slice ea el ec))/\V.cell? ⟨Kb,0,none⟩=some (.slice fa fs.length fc)/\V.cell? ⟨Kb,1,none⟩=some (.map (some b))):=λV hV=>by
      have h1:=(hV Tb iH.2 (PV iH.1)).trans iH.1;have h2:=(hV Kb dX.low.1 (PV dX.kb)).trans dX.kb;exact ⟨⟨P0 h1 rfl,P0 h1 rfl,P0 h1 rfl,P0 h1 rfl,P0 h1 rfl⟩,P0 h2 rfl,P0 h2 rfl⟩
     have uW:Hid (Calls Tryz.prog 33 #[.agg #[.slice fa fs.length fc,.map (some b)],.agg #[.int .i64 ta,.int .i64 tb,.slice pa pl pc,.slice ca cl cc,.slice ea el ec],.slice fP rows.length ci] dC.drew (K5 F (Rq F k fs F (Pj F k fs rows).1 rows) dC.drew)):=by
      have lr:=(dX.on uV.out).on ((Pb _ dC).drew);have fh:=(eS.out _ lr.cq).2;have hlt:=lr.cq.lt;exact av1 (w:=dC.drew) (S:=λy=>S y\/(w.heap.size+2<=y/\y<dC.drew.heap.size)) (by have:=HF.out;omega) _ rows iF.1 iF.2.1 cN.2 iF.2.2.1 iF.2.2.2 fa fc _ _ (λy hy=>by
       rcases hy with hy | hy
       ·exact (eS.out _ lr.cq).1 y hy
       exact hy.2) lr.map ((br.2.1.on fh).up λy hy=> .inl hy) (PL.below (OZ.refl _ _) (λy hy=> .inr hy) F _ _ lr.tree) ((br.2.2.1.on fh).up λy hy=> .inl hy) cX.1 cX.2
     have bs4:=rA.out dC.drew (λy _ h2=>uV.block y h2);have ID:=uW.out;have ci5:Hid (∀w11,Below dC.drew.heap.size dC.drew w11->Ct F w S (.slice fa fs.length fc) b k (Pj F k fs rows).1 (Pj F k fs rows).2 Kb Mb (.agg #[.int .i64 ta,.int .i64 tb,.slice pa pl pc,.slice ca cl cc,.slice ea el ec]) w11/\(∀y,w.heap.size+2<=y->y<W8.heap.size->w11.heap[y]? =W8.heap[y]?)/\w.heap.size+2<=dC.heap.size):=λw11 hb11=>by
      have hb:Below dC.heap.size dC w11:=⟨hb11.os,hb11.tape,hb11.output,hb11.size,hb11.block⟩;have aj:=uV.trans (hb.mono uV.size);exact ⟨dX.on aj,λy _ h2=>aj.block y h2,(dX.on uV.out).cq.lt⟩
     have uX:Hid (∀w11:World,(∀y,w.heap.size+2<=y->y<W8.heap.size->w11.heap[y]? =W8.heap[y]?)->∀a0 a1 a2 a3 a4:Value,((((((w11.setCell ⟨w.heap.size,0,none⟩ a0).setCell ⟨w.heap.size,1,none⟩ a1).setCell ⟨w.heap.size,2,none⟩ a2).setCell ⟨w.heap.size,3,none⟩ a3).setCell ⟨w.heap.size,4,none⟩ a4).cell? ⟨Tb,0,none⟩=some (.int .i64 ta)/\(((((w11.setCell ⟨w.heap.size,0,none⟩ a0).setCell ⟨w.heap.size,1,none⟩ a1).setCell ⟨w.heap.size,2,none⟩ a2).setCell ⟨w.heap.size,3,none⟩ a3).setCell ⟨w.heap.size,4,none⟩ a4).cell? ⟨Tb,1,none⟩=some (.int .i64 tb)/\(((((w11.setCell ⟨w.heap.size,0,none⟩ a0).setCell ⟨w.heap.size,1,none⟩ a1).setCell ⟨w.heap.size,2,none⟩ a2).setCell ⟨w.heap.size,3,none⟩ a3).setCell ⟨w.heap.size,4,none⟩ a4).cell? ⟨Tb,2,none⟩=some (.slice pa pl pc)/\(((((w11.setCell ⟨w.heap.size,0,none⟩ a0).setCell ⟨w.heap.size,1,none⟩ a1).setCell ⟨w.heap.size,2,none⟩ a2).setCell ⟨w.heap.size,3,none⟩ a3).setCell ⟨w.heap.size,4,none⟩ a4).cell? ⟨Tb,3,none⟩=some (.slice ca cl cc)/\(((((w11.setCell ⟨w.heap.size,0,none⟩ a0).setCell ⟨w.heap.size,1,none⟩ a1).setCell ⟨w.heap.size,2,none⟩ a2).setCell ⟨w.heap.size,3,none⟩ a3).setCell ⟨w.heap.size,4,none⟩ a4).cell? ⟨Tb,4,none⟩=some (.slice ea el ec))/\(((((w11.setCell ⟨w.heap.size,0,none⟩ a0).setCell ⟨w.heap.size,1,none⟩ a1).setCell ⟨w.heap.size,2,none⟩ a2).setCell ⟨w.heap.size,3,none⟩ a3).setCell ⟨w.heap.size,4,none⟩ a4).cell? ⟨Kb,0,none⟩=some (.slice fa fs.length fc)/\(((((w11.setCell ⟨w.heap.size,0,none⟩ a0).setCell ⟨w.heap.size,1,none⟩ a1).setCell ⟨w.heap.size,2,none⟩ a2).setCell ⟨w.heap.size,3,none⟩ a3).setCell ⟨w.heap.size,4,none⟩ a4).cell? ⟨Kb,1,none⟩=some (.map (some b))):=λw11 te a0 a1 a2 a3 a4=>rA.out _ λy h1 h2=>by
      rw [PX _ _ _ _ (by show y≠w.heap.size;omega),PX _ _ _ _ (by show y≠w.heap.size;omega),PX _ _ _ _ (by show y≠w.heap.size;omega),PX _ _ _ _ (by show y≠w.heap.size;omega),PX _ _ _ _ (by show y≠w.heap.size;omega)];exact te y h1 h2
     have uY:Hid (∀w11:World,(∀y,w.heap.size+2<=y->y<W8.heap.size->w11.heap[y]? =W8.heap[y]?)->∀a0 a1 a2 a3 a4 b0 b1 b2:Value,(((((((((w11.setCell ⟨w.heap.size,0,none⟩ a0).setCell ⟨w.heap.size,1,none⟩ a1).setCell ⟨w.heap.size,2,none⟩ a2).setCell ⟨w.heap.size,3,none⟩ a3).setCell ⟨w.heap.size,4,none⟩ a4).setCell ⟨w.heap.size+1,0,none⟩ b0).setCell ⟨w.heap.size+1,1,none⟩ b1).setCell ⟨w.heap.size+1,2,none⟩ b2).cell? ⟨Tb,0,none⟩=some (.int .i64 ta)/\((((((((w11.setCell ⟨w.heap.size,0,none⟩ a0).setCell ⟨w.heap.size,1,none⟩ a1).setCell ⟨w.heap.size,2,none⟩ a2).setCell ⟨w.heap.size,3,none⟩ a3).setCell ⟨w.heap.size,4,none⟩ a4).setCell ⟨w.heap.size+1,0,none⟩ b0).setCell ⟨w.heap.size+1,1,none⟩ b1).setCell ⟨w.heap.size+1,2,none⟩ b2).cell? ⟨Tb,1,none⟩=some (.int .i64 tb)/\((((((((w11.setCell ⟨w.heap.size,0,none⟩ a0).setCell ⟨w.heap.size,1,none⟩ a1).setCell ⟨w.heap.size,2,none⟩ a2).setCell ⟨w.heap.size,3,none⟩ a3).setCell ⟨w.heap.size,4,none⟩ a4).setCell ⟨w.heap.size+1,0,none⟩ b0).setCell ⟨w.heap.size+1,1,none⟩ b1).setCell ⟨w.heap.size+1,2,none⟩ b2).cell? ⟨Tb,2,none⟩=some (.slice pa pl pc)/\((((((((w11.setCell ⟨w.heap.size,0,none⟩ a0).setCell ⟨w.heap.size,1,none⟩ a1).setCell ⟨w.heap.size,2,none⟩ a2).setCell ⟨w.heap.size,3,none⟩ a3).setCell ⟨w.heap.size,4,none⟩ a4).setCell ⟨w.heap.size+1,0,none⟩ b0).setCell ⟨w.heap.size+1,1,none⟩ b1).setCell ⟨w.heap.size+1,2,none⟩ b2).cell? ⟨Tb,3,none⟩=some (.slice ca cl cc)/\((((((((w11.setCell ⟨w.heap.size,0,none⟩ a0).setCell ⟨w.heap.size,1,none⟩ a1).setCell ⟨w.heap.size,2,none⟩ a2).setCell ⟨w.heap.size,3,none⟩ a3).setCell ⟨w.heap.size,4,none⟩ a4).setCell ⟨w.heap.size+1,0,none⟩ b0).setCell ⟨w.heap.size+1,1,none⟩ b1).setCell ⟨w.heap.size+1,2,none⟩ b2).cell? ⟨Tb,4,none⟩=some (.slice ea el ec))/\((((((((w11.setCell ⟨w.heap.size,0,none⟩ a0).setCell ⟨w.heap.size,1,none⟩ a1).setCell ⟨w.heap.size,2,none⟩ a2).setCell ⟨w.heap.size,3,none⟩ a3).setCell ⟨w.heap.size,4,none⟩ a4).setCell ⟨w.heap.size+1,0,none⟩ b0).setCell ⟨w.heap.size+1,1,none⟩ b1).setCell ⟨w.heap.size+1,2,none⟩ b2).cell? ⟨Kb,0,none⟩=some (.slice fa fs.length fc)/\((((((((w11.setCell ⟨w.heap.size,0,none⟩ a0).setCell ⟨w.heap.size,1,none⟩ a1).setCell ⟨w.heap.size,2,none⟩ a2).setCell ⟨w.heap.size,3,none⟩ a3).setCell ⟨w.heap.size,4,none⟩ a4).setCell ⟨w.heap.size+1,0,none⟩ b0).setCell ⟨w.heap.size+1,1,none⟩ b1).setCell ⟨w.heap.size+1,2,none⟩ b2).cell? ⟨Kb,1,none⟩=some (.map (some b))):=λw11 te a0 a1 a2 a3 a4 b0 b1 b2=>rA.out _ λy h1 h2=>by
      rw [PX _ _ _ _ (by show y≠w.heap.size+1;omega),PX _ _ _ _ (by show y≠w.heap.size+1;omega),PX _ _ _ _ (by show y≠w.heap.size+1;omega),PX _ _ _ _ (by show y≠w.heap.size;omega),PX _ _ _ _ (by show y≠w.heap.size;omega),PX _ _ _ _ (by show y≠w.heap.size;omega),PX _ _ _ _ (by show y≠w.heap.size;omega),PX _ _ _ _ (by show y≠w.heap.size;omega)];exact te y h1 h2
     have Ev:Hid (TN W8 (w.heap.size+2) W8.heap.size F (.agg #[.int .i64 ta,.int .i64 tb,.slice pa pl pc,.slice ca cl cc,.slice ea el ec])/\W8.heap.size<=dC.heap.size/\w.heap.size+2<=W8.heap.size):=⟨dX.own,uV.size,dX.cq.lt⟩;clear hb9 hb10 x0 x1 x2 x3 x4 m2 CE CD nF uW dX iH iF C1 oU oh cR fQ uV;unfold K5 at ID;generalize bn5:Rq F k fs F (Pj F k fs rows).1 rows=fR at *
     clear bn5
     go_region_held3 (λw'=>(w'.cell? ⟨Tb,0,none⟩=some (.int .i64 ta)/\w'.cell? ⟨Tb,1,none⟩=some (.int .i64 tb)/\w'.cell? ⟨Tb,2,none⟩=some (.slice pa pl pc)/\w'.cell? ⟨Tb,3,none⟩=some (.slice ca cl cc)/\w'.cell? ⟨Tb,4,none⟩=some (.slice ea el ec))/\w'.cell? ⟨Kb,0,none⟩=some (.slice fa fs.length fc)/\w'.cell? ⟨Kb,1,none⟩=some (.map (some b)))
      (first | (with_reducible exact bs4) | (with_reducible exact bu7) | (with_reducible exact uX.out _ te _ _ _ _ _) | (with_reducible exact uY.out _ te _ _ _ _ _ _ _ _))
      (first
      | (go_at_call 33;(with_reducible refine Pe ID ?_);rintro e' w11 ⟨hb11,ad1,cp1,ad2,cp2,rfl,hn11,hp11,ho11⟩;have bs7:Hid _:=ho11;clear ho11;obtain ⟨oV,te,am4⟩:=ci5.out w11 hb11;have bu7:=rA.out w11 te;obtain ⟨⟨g0,g1,g2,g3,g4⟩,⟨h0,h1,h2⟩,zt,zc⟩:=oV.cq.cells;have z0:=zt 0;have z1:=zt 1;have z2:=zt 2;have z3:=zt 3;have z4:=zt 4;have y0:=zc 0;have y1:=zc 1;have y2:=zc 2))
     obtain ⟨U,hU,aN,bG,aZ,bj,aP⟩:=oV.cq.store (.int .i64 ta) (.int .i64 tb) (.slice pa pl pc) (.slice ca cl cc) (.slice ea el ec) (.bool fR.1) (.slice ad1 fR.2.1.length cp1) (.slice ad2 fR.2.2.length cp2);unfold Tx at hU;go_wp2;rw [<-hU];have u0:=P0 (i:=0) aN rfl;have u1:=P0 (i:=1) aN rfl;have u2:=P0 (i:=2) aN rfl;have u3:=P0 (i:=3) aN rfl;have u4:=P0 (i:=4) aN rfl;have v0:=P0 (i:=0) bG rfl;have v1:=P0 (i:=1) bG rfl;have v2:=P0 (i:=2) bG rfl;refine Qv (v:= .tuple #[.agg #[.int .i64 ta,.int .i64 tb,.slice pa pl pc,.slice ca cl cc,.slice ea el ec],.agg #[.bool fR.1,.slice ad1 fR.2.1.length cp1,.slice ad2 fR.2.2.length cp2],.int .i64 0]) (by simp [results,Tryz.results9,go_sem,u0,u1,u2,u3,u4,v0,v1,v2]) rfl ?_;have hz:dC.drew.heap.size=dC.heap.size:=rfl;refine ⟨aZ,.inr ⟨_,_,_,ad1,cp1,ad2,cp2,cE.out,rfl,?_,?_,?_,?_⟩⟩
     ·exact PL.below (λy hy=>aP y (by omega) (by omega)) (λy hy=>⟨by omega,by omega⟩) F _ _ oV.tree
     ·exact (hn11.on λy hy=>aP y (by omega) (by omega)).up λy hy=>⟨by omega,by omega⟩
     ·exact (hp11.on λy hy=>aP y (by omega) (by omega)).up λy hy=>⟨by omega,by omega⟩
     have h8:=Ev.out;have ab3:=hb11.size;exact (YL ((h8.1.on (w':=w11) te (P6 _) (P6 _))) bs7.out (by omega) (by omega) (by omega)).on (λy h1 h2=>aP y (by omega) (by omega)) (by omega) (by omega)
   have cE:Hid (RR F fs rows 71 none):= .inr ⟨lm.out,.inr ⟨k,cN.1,.inl ⟨j9,rfl,rfl⟩⟩⟩;have AB:Calls Tryz.prog 28 #[.agg #[.slice fa fs.length fc,.map (some b)],.slice fP rows.length ci] W3 λr w'=>∃v,r= .returned (.tuple #[v,.bool false])/\Below W3.heap.size W3 w':=Pe CR λr w' h=>by
    obtain ⟨hb,⟨_,h2⟩ | ⟨h1,v,a,h2,_,h4⟩⟩:=h
    ·exact ⟨_,h2,hb⟩
    cases a with
    | false=>exact ⟨v,h2,hb⟩
    | true=>exact absurd ⟨h1,h4.1 rfl⟩ j9
   clear j9 CR
   go_upto_region 8 with (first | (go_at_call 28;(with_reducible refine Pe AB ?_);rintro e' w4 ⟨v4,rfl,hb4⟩))
   have HQ:=P4 (mD.1.on hb4);clear hb4 Iz IA AB;obtain ⟨⟨g0,g1,g2,g3,g4⟩,⟨h0,h1,h2⟩,zt,zc⟩:=HQ.cells;have z0:=zt 0;have z1:=zt 1;have z2:=zt 2;have z3:=zt 3;have z4:=zt 4;have y0:=zc 0;have y1:=zc 1;have y2:=zc 2;obtain ⟨U,hU,aN,bG,aZ,_,_⟩:=HQ.store (.int .i64 0) (.int .i64 0) (.slice none 0 0) (.slice none 0 0) (.slice none 0 0) (.bool false) (.slice none 0 0) (.slice none 0 0);unfold Tx at hU;have eK:=P4 aZ;clear zt zc aZ;go_wp2;rw [<-hU];have u0:=P0 (i:=0) aN rfl;have u1:=P0 (i:=1) aN rfl;have u2:=P0 (i:=2) aN rfl;have u3:=P0 (i:=3) aN rfl;have u4:=P0 (i:=4) aN rfl;have v0:=P0 (i:=0) bG rfl;have v1:=P0 (i:=1) bG rfl;have v2:=P0 (i:=2) bG rfl;refine Qv (v:= .tuple #[.agg Rv,.agg RQ,.int .i64 71]) (by simp [results,Tryz.results9,go_sem,u0,u1,u2,u3,u4,v0,v1,v2,Rv,RQ]) rfl ?_;exact ⟨eK.out,.inl ⟨71,cE.out,by decide,rfl⟩⟩
end
section
variable {rows:List (List Pt)}{F:Nat}{fs:List Pu}
theorem Rn.zero:∀f,Rn f (Qz f)
 | 0=>trivial
 | _+1=>⟨by simp [Qz],λc h=>by simp [Qz] at h,λc h=>by simp [Qz] at h⟩
theorem FX {k:Kn}{fs:List Pu}(hk:KnOk k fs):∀(f n:Nat) (cols:List PM) (rows:List Nat) (m:Nat),(∀c∈cols,Good k m c)->m+f<140737488355328->Rn f (Ps k fs f n cols rows).1
 | 0,_,_,_,_,_,_=>trivial
 | f+1,n,cols,rows,m,hg,hm=>by
  by_cases hn:5000<=n
  ·rw [Vq _ _ _ _ _ _ hn];exact Rn.zero _
  cases rows with
  | nil=>rw [VW _ _ _ _ _ (by omega)];exact ⟨by simp,λc h=>by simp at h,λc h=>by simp at h⟩
  | cons r rows=>
   cases hi:cols.findIdx? (Rx r) with
   | none=>rw [V9 _ _ _ _ _ _ _ (by omega) hi];exact ⟨by simp,λc h=>by simp at h,λc h=>by simp at h⟩
   | some ax=>
    have ha:ax<cols.length:=(SP.1 hi).1;rw [Vz _ _ _ _ _ _ _ _ ha (by omega) hi];have ms:=hg _ (Px ha);have jb:∀x∈Pg k (PK cols[ax].2.2 (r::rows)),∀q,Rn f (PG k fs f cols (r::rows) ax (PK cols[ax].2.2 (r::rows)) (cols[ax].1++[cols[ax].2.1]) x q).1:=λx hx q=>by
     refine FX hk f q _ _ (m+1) (λc hc=> ?_) (by omega);rcases PE.1 hc with hc | hc
     ·rcases PE.1 hc with hc | hc
      ·exact (hg c (Sa hc)).up (by omega)
      exact ms.within hk (r::rows) hx hc
     exact (hg c (Sn hc)).up (by omega)
    have mW:∀q,Rn f (Ps k fs f q (cols.take ax++cols.drop (ax+1)) (QE (r::rows) (PK cols[ax].2.2 (r::rows)))).1:=λq=>by
     refine FX hk f q _ _ m (λc hc=> ?_) (by omega);rcases PE.1 hc with hc | hc
     ·exact hg c (Sa hc)
     exact hg c (Sn hc)
    have bo:(cols[ax].1++[cols[ax].2.1]).length<140737488355328:=by
     have:=ms.path;rw [QP];simp;omega
    unfold T9;simp only;generalize PK cols[ax].2.2 (r::rows)=af at *
    generalize PG k fs f cols (r::rows) ax af (cols[ax].1++[cols[ax].2.1])=step at *
    have h1:∀c∈(Pg k af).zip (P9 step (Pg k af) (n+1)).1,Rn f c.2:=λc hc=>by
     obtain ⟨q1,q,q2⟩:=Zt _ _ c.1 c.2 hc;rw [q2];exact jb _ q1 q
    split
    ·exact ⟨bo,h1,λe he=>by simp at he⟩
    exact ⟨bo,h1,λe he=>by rw [Ra.1 he];exact mW _⟩
theorem tm0 (h:Rh rows=false):rows.length<=200/\∀r∈rows,r.length<=16:=by
 unfold Rh at h;rw [OJ] at h;refine ⟨by have:=My h.1;omega,λr hr=> ?_⟩;have:=OQ.1 h.2 r hr;have:¬16<r.length:=by simpa using this
 omega
theorem KJ {t:Tr F}{c:Cv F}(h:RR F fs rows 0 (some (t,c))):Rh rows=false/\∃k,Po 0 [] fs=some k/\UO k rows/\(Pj F k fs rows).2<=5000/\Pa F (Pj F k fs rows).1<=1000/\RU rows=false/\t=(Pj F k fs rows).1/\c=Rq F k fs F (Pj F k fs rows).1 rows:=by
 rcases h with ⟨_,h,_⟩ | ⟨h0,⟨_,h,_⟩ | ⟨k,h1,⟨_,h,_⟩ | ⟨h2,⟨_,h,_⟩ | ⟨h3,⟨_,h,_⟩ | ⟨⟨h4,h5⟩,_,h⟩⟩⟩⟩⟩
 ·exact absurd h (by decide)
 ·exact absurd h (by decide)
 ·exact absurd h (by decide)
 ·exact absurd h (by decide)
 ·exact absurd h (by decide)
 injection h with h;injection h with e1 e2;exact ⟨h0,k,h1,h2,h3,h4,h5,e1,e2⟩
theorem az1 (hF:F<=100000){fs:List Pu}{rows:List (List Pt)}{t:Tr F}{c:Cv F}(h:RR F fs rows 0 (some (t,c))):Sm F t/\Rn F t/\c.2.1.length<=200/\c.2.2.length<=16:=by
 obtain ⟨h0,k,h1,h2,_,_,_,rfl,rfl⟩:=KJ h;obtain ⟨hl,hw⟩:=tm0 h0;have cw:∀c∈QA [] (rows.headD []).length (Qy rows),Good k 0 c:=λc hc=>Z6 hl hc (h2.2 c hc _) 0;refine ⟨NX k fs F 0 _ _ λc hc=>(cw c hc).len,FX (SJ h1) F 0 _ _ 0 cw (by omega),?_,?_⟩
 ·unfold Rq;refine PZ (T8 _ _) ?_;rw [Ow];exact hl
 unfold Rq;dsimp only;split
 ·simp
 split
 ·simp
 unfold Qi;rw [Qb,Ow];exact hw _ (Op ..)
theorem FD {t:Tr F}{c:Cv F}(h:RR F fs rows 0 (some (t,c))){e:Int}{o:Option (Tr F×Cv F)}(h':RR F fs rows e o):e=0/\o=some (t,c):=by
 obtain ⟨h0,k,h1,h2,h3,h4,h5,rfl,rfl⟩:=KJ h;rcases h' with ⟨g,_⟩ | ⟨_,⟨g,_⟩ | ⟨k',g1,g⟩⟩
 ·rw [h0] at g;cases g
 ·rw [h1] at g;cases g
 rw [h1] at g1;obtain rfl:=Qs g1;rcases g with ⟨g,_⟩ | ⟨_,⟨g,_⟩ | ⟨_,⟨g | g,_⟩ | ⟨_,g1,g2⟩⟩⟩
 ·exact absurd h2 g
 ·omega
 ·omega
 ·rw [h5] at g;cases g
 exact ⟨g1,g2⟩
end
def S4:(f:Nat)->Tr f->Nat
 | 0,_=>1
 | f+1,t=>1+(t.2.1.map λc=>S4 f c.2).sum+(t.2.2.map (S4 f)).sum
theorem ks0:∀f,S4 f (Qz f)=1
 | 0=>rfl
 | _+1=>rfl
theorem yI {α β:Type}{step:α->Nat->β×Nat}{N:β->Nat}(h:∀x n,N (step x n).1+n<=(step x n).2):∀(l:List α) (n:Nat),((P9 step l n).1.map N).sum+n<=(P9 step l n).2
 | [],n=>by simp [P9]
 | a::r,n=>by
  unfold P9;have h1:=h a n;have h2:=yI h r (step a n).2;rw [Re,SO];omega
theorem FZ {α β:Type}(N:β->Nat):∀(a:List α) (b:List β),((a.zip b).map λc=>N c.2).sum<=(b.map N).sum
 | [],b=>by simp
 | _::_,[]=>by simp
 | x::a,y::b=>by
  have:=FZ N a b;rw [ZG,Re,Re,SO,SO];exact Nat.add_le_add_left this _
theorem LL (k:Kn)(fs:List Pu):∀(f n:Nat) (cols:List PM) (rows:List Nat),S4 f (Ps k fs f n cols rows).1+n<=(Ps k fs f n cols rows).2
 | 0,n,_,_=>by simp [Ps,S4];omega
 | f+1,n,cols,rows=>by
  by_cases hn:5000<=n
  ·rw [Vq _ _ _ _ _ _ hn,ks0];omega
  cases rows with
  | nil=>rw [VW _ _ _ _ _ (by omega)];simp [S4];omega
  | cons r rows=>
   cases hi:cols.findIdx? (Rx r) with
   | none=>rw [V9 _ _ _ _ _ _ _ (by omega) hi];simp [S4];omega
   | some ax=>
    have ha:ax<cols.length:=(SP.1 hi).1;rw [Vz _ _ _ _ _ _ _ _ ha (by omega) hi];have h1:=yI (N:=S4 f) (step:=PG k fs f cols (r::rows) ax (PK cols[ax].2.2 (r::rows)) (cols[ax].1++[cols[ax].2.1])) (λx q=>LL k fs f q _ _) (Pg k (PK cols[ax].2.2 (r::rows))) (n+1);unfold T9;dsimp only;generalize P9 (PG k fs f cols (r::rows) ax (PK cols[ax].2.2 (r::rows)) (cols[ax].1++[cols[ax].2.1])) (Pg k (PK cols[ax].2.2 (r::rows))) (n+1)=a at *
    have h2:=FZ (S4 f) (Pg k (PK cols[ax].2.2 (r::rows))) a.1;split
    ·show 1+(((Pg k (PK cols[ax].2.2 (r::rows))).zip a.1).map λc=>S4 f c.2).sum+0+n<=a.2;omega
    have h3:=LL k fs f a.2 (cols.take ax++cols.drop (ax+1)) (QE (r::rows) (PK cols[ax].2.2 (r::rows)));show 1+(((Pg k (PK cols[ax].2.2 (r::rows))).zip a.1).map λc=>S4 f c.2).sum+(S4 f _+0)+n<=_;omega
def QF (m:Nat)(g:Nat->Nat):Nat:=((List.range m).map g).sum
theorem Z8 (m:Nat)(g:Nat->Nat):QF (m+1) g=QF m g+g m:=by
 unfold QF;rw [YH,R6,Kk];simp
theorem M1 {g h:Nat->Nat}(hl:∀i,g i<=h i):∀m,QF m g<=QF m h
 | 0=>P6 _
 | m+1=>by
  rw [Z8,Z8];exact AE (M1 hl m) (hl m)
theorem Oc (g h:Nat->Nat):∀m,QF m (λi=>g i+h i)=QF m g+QF m h
 | 0=>rfl
 | m+1=>by
  rw [Z8,Z8,Z8,Oc g h m];omega
theorem L3 {g:Nat->Nat}{c:Nat}(h1:∀i,g i<=c)(h2:∀i j,g i≠0->g j≠0->i=j):∀m,QF m g<=c/\((∃i,m<=i/\g i≠0)->QF m g=0)
 | 0=>⟨TD _,λ_=>rfl⟩
 | m+1=>by
  obtain ⟨a,b⟩:=L3 h1 h2 m;rw [Z8];refine ⟨?_,λ⟨i,hi,hg⟩=> ?_⟩
  ·by_cases hm:g m=0
   ·rw [hm];exact a
   rw [b ⟨m,P6 _,hm⟩,Rp];exact h1 m
  rw [b ⟨i,by omega,hg⟩];by_cases hm:g m=0
  ·rw [hm]
  have:=h2 i m hg hm;omega
theorem ZN (c:Nat):∀m,QF m (λ_=>c)=m*c
 | 0=>by simp [QF]
 | m+1=>by rw [Z8,ZN c m,TM,YF]
def wt (p:List Nat)(ao:List Qj):Nat:=(ao.map λs=>if p.isPrefixOf s.1 then s.2.2 else 0).sum
theorem Ko (p:List Nat)(s:Qj)(ao:List Qj):wt p (s::ao)=(if p.isPrefixOf s.1 then s.2.2 else 0)+wt p ao:=by
 unfold wt;rw [Re,SO]
def wb (p:List Nat)(ao:List Qj):Nat:=(ao.map λs=>if p.isPrefixOf s.1 && !(s.1==p) then s.2.2 else 0).sum
theorem LX (p:List Nat)(s:Qj)(ao:List Qj):wb p (s::ao)=(if p.isPrefixOf s.1 && !(s.1==p) then s.2.2 else 0)+wb p ao:=by
 unfold wb;rw [Re,SO]
theorem UQ (p:List Nat):∀ao,wb p ao<=wt p ao
 | []=>P6 _
 | s::ao=>by
  rw [LX,Ko];have:=UQ p ao;cases h:p.isPrefixOf s.1<;>cases h2:(s.1==p)<;>simp<;>omega
theorem VI (p:List Nat):∀ao,(PY ao p).2+wb p ao<=wt p ao
 | []=>by simp [PY,wb,wt]
 | s::ao=>by
  rw [LX,Ko];have ih:=VI p ao;by_cases h:s.1=p
  ·have hp:p.isPrefixOf s.1=true:=by rw [h,OR];exact OT _
   have hl:PY (s::ao) p=s.2:=by unfold PY;simp [h]
   have hb:=UQ p ao;simp only [hl,h,NR,Bool.not_true,Nc];simp;omega
  have hl:PY (s::ao) p=PY ao p:=by unfold PY;rw [List.find?_cons_of_neg (by simpa using h)]
  have hs:(s.1==p)=false:=by simpa using h
  simp only [hl,hs,Bool.not_false,Bool.and_true];omega
theorem FC (p:List Nat)(m:Nat):∀ao,QF m (λi=>wt (p++[i]) ao)<=wb p ao
 | []=>by
  have:(λi=>wt (p++[i]) [])=λ_=>0:=rfl;rw [this,ZN];simp
 | s::ao=>by
  have ih:=FC p m ao;have e:(λi=>wt (p++[i]) (s::ao))=λi=>(if (p++[i]).isPrefixOf s.1 then s.2.2 else 0)+wt (p++[i]) ao:=funext λi=>Ko _ _ _;rw [e,Oc,LX];refine AE ?_ ih;by_cases hp:p.isPrefixOf s.1=true/\s.1≠p
  ·rw [Pc (by rw [hp.1];simpa using hp.2)];refine (L3 (λi=> ?_) (λi j hi hj=> ?_) m).1
   ·split<;>omega
   have h1:p++[i]<+:s.1:=by
    rw [<-OR];cases h:(p++[i]).isPrefixOf s.1
    ·rw [h] at hi;simp at hi
    rfl
   have h2:p++[j]<+:s.1:=by
    rw [<-OR];cases h:(p++[j]).isPrefixOf s.1
    ·rw [h] at hj;simp at hj
    rfl
   have:=(List.prefix_of_prefix_length_le h1 h2 (by simp)).eq_of_length (by simp);simpa using this
  have h0:∀i,(p++[i]).isPrefixOf s.1=false:=λi=>by
   cases h:(p++[i]).isPrefixOf s.1
   ·rfl
   rw [OR] at h;refine absurd ⟨?_,?_⟩ hp
   ·rw [OR];exact (MM p [i]).trans h
   intro e;rw [e] at h;have:=h.length_le;simp at this;omega
  have:(λi=>if (p++[i]).isPrefixOf s.1=true then s.2.2 else 0)=λ_=>0:=funext λi=>by rw [h0 i];rfl
  rw [this,ZN];simp
theorem rx (ao:List Qj):∀(d:Nat) (p:List Nat),WX (d+1) (So ao d p)<=1+wt p ao
 | 0,p=>by
  show 1+0<=_;omega
 | d+1,p=>by
  show 1+(((List.range (PY ao p).2).map λi=>So ao d (p++[i])).map (WX (d+1))).sum<=_;rw [TL];have h1:QF (PY ao p).2 (λi=>WX (d+1) (So ao d (p++[i])))<=QF (PY ao p).2 (λi=>1+wt (p++[i]) ao):=M1 (λi=>rx ao d (p++[i])) _;rw [Oc,ZN,R4] at h1;have h2:=FC p (PY ao p).2 ao;have h3:=VI p ao;have:((List.range (PY ao p).2).map (WX (d+1)∘λi=>So ao d (p++[i]))).sum=QF (PY ao p).2 (λi=>WX (d+1) (So ao d (p++[i]))):=rfl;rw [this];omega
theorem Yc (p:List Nat):∀ao:List Qj,(∀s∈ao,s.2.2<=8)->wt p ao<=8*ao.length
 | [],_=>TD _
 | s::ao,h=>by
  rw [Ko,Rj];have h1:=h s (by simp);have h2:=Yc p ao λs hs=>h s (by simp [hs]);split<;>omega
theorem XA (D n:Nat)(ao:List Qj)(hw:∀s∈ao,s.2.2<=8):Q6 ((Qi D n ao).map λu=>(⟨D+1,u⟩:Pt))<=n+8*ao.length:=by
 unfold Q6 Qi;rw [TL,TL];have h1:QF n (λi=>WX (D+1) (So ao D [i]))<=QF n (λi=>1+wt ([]++[i]) ao):=M1 (λi=>rx ao D [i]) n;rw [Oc,ZN,R4] at h1;have h2:=FC [] n ao;have h3:=UQ [] ao;have h4:=Yc [] ao hw;have:((List.range n).map ((Pt.sz∘λu=>(⟨D+1,u⟩:Pt))∘λi=>So ao D [i])).sum=QF n (λi=>WX (D+1) (So ao D [i])):=rfl;rw [this];omega
def Un (N:Nat):(f:Nat)->Tr f->Prop
 | 0,_=>True
 | f+1,t=>t.1.2.2.length<=N/\(∀c∈t.2.1,Un N f c.2)/\∀e∈t.2.2,Un N f e
theorem Un.zero (N:Nat):∀f,Un N f (Qz f)
 | 0=>trivial
 | _+1=>⟨by simp [Qz],λc h=>by simp [Qz] at h,λc h=>by simp [Qz] at h⟩
theorem K3 {k:Kn}{fs:List Pu}(hk:KnOk k fs)(N:Nat):∀(f n:Nat) (cols:List PM) (rows:List Nat) (m:Nat),(∀c∈cols,Good k m c)->m+f<=N->Un N f (Ps k fs f n cols rows).1
 | 0,_,_,_,_,_,_=>trivial
 | f+1,n,cols,rows,m,hg,hm=>by
  by_cases hn:5000<=n
  ·rw [Vq _ _ _ _ _ _ hn];exact Un.zero _ _
  cases rows with
  | nil=>rw [VW _ _ _ _ _ (by omega)];exact ⟨by simp,λc h=>by simp at h,λc h=>by simp at h⟩
  | cons r rows=>
   cases hi:cols.findIdx? (Rx r) with
   | none=>rw [V9 _ _ _ _ _ _ _ (by omega) hi];exact ⟨by simp,λc h=>by simp at h,λc h=>by simp at h⟩
   | some ax=>
    have ha:ax<cols.length:=(SP.1 hi).1;rw [Vz _ _ _ _ _ _ _ _ ha (by omega) hi];have ms:=hg _ (Px ha);have jb:∀x∈Pg k (PK cols[ax].2.2 (r::rows)),∀q,Un N f (PG k fs f cols (r::rows) ax (PK cols[ax].2.2 (r::rows)) (cols[ax].1++[cols[ax].2.1]) x q).1:=λx hx q=>by
     refine K3 hk N f q _ _ (m+1) (λc hc=> ?_) (by omega);rcases PE.1 hc with hc | hc
     ·rcases PE.1 hc with hc | hc
      ·exact (hg c (Sa hc)).up (by omega)
      exact ms.within hk (r::rows) hx hc
     exact (hg c (Sn hc)).up (by omega)
    have mW:∀q,Un N f (Ps k fs f q (cols.take ax++cols.drop (ax+1)) (QE (r::rows) (PK cols[ax].2.2 (r::rows)))).1:=λq=>by
     refine K3 hk N f q _ _ m (λc hc=> ?_) (by omega);rcases PE.1 hc with hc | hc
     ·exact hg c (Sa hc)
     exact hg c (Sn hc)
    have bo:(cols[ax].1++[cols[ax].2.1]).length<=N:=by
     have:=ms.path;rw [QP];simp;omega
    unfold T9;simp only;generalize PK cols[ax].2.2 (r::rows)=af at *
    generalize PG k fs f cols (r::rows) ax af (cols[ax].1++[cols[ax].2.1])=step at *
    have h1:∀c∈(Pg k af).zip (P9 step (Pg k af) (n+1)).1,Un N f c.2:=λc hc=>by
     obtain ⟨q1,q,q2⟩:=Zt _ _ c.1 c.2 hc;rw [q2];exact jb _ q1 q
    split
    ·exact ⟨bo,h1,λe he=>by simp at he⟩
    exact ⟨bo,h1,λe he=>by rw [Ra.1 he];exact mW _⟩
theorem ym1 {F:Nat}(hF:F<=5001){fs:List Pu}{rows:List (List Pt)}{t:Tr F}{c:Cv F}(h:RR F fs rows 0 (some (t,c))):S4 F t<=5000/\Q6 (c.2.2.map λu=>(⟨F+1,u⟩:Pt))<=50000/\Un 5001 F t:=by
 obtain ⟨h0,k,h1,h2,h3,_,_,rfl,rfl⟩:=KJ h;obtain ⟨hl,hw⟩:=tm0 h0;have cw:∀c∈QA [] (rows.headD []).length (Qy rows),Good k 0 c:=λc hc=>Z6 hl hc (h2.2 c hc _) 0;refine ⟨?_,?_,K3 (SJ h1) 5001 F 0 _ _ 0 cw (by omega)⟩
 ·have:=LL k fs F 0 (QA [] (rows.headD []).length (Qy rows)) (List.range rows.length);exact PZ this h3
 unfold Rq;dsimp only;split
 ·simp [Q6]
 rename_i ao mX;split
 ·simp [Q6]
 have be7:=st0 (SJ h1) F 0 _ _ _ ao mX;have aA:=Zi F _ _ mX;refine PZ (XA F _ ao be7.2) ?_;have:=hw _ (Op ..);omega
theorem Ns {F:Nat}{fs:List Pu}{rows:List (List Pt)}{e e':Int}{o o':Option (Tr F×Cv F)}(h:RR F fs rows e o)(h':RR F fs rows e' o'):e=e'/\o=o':=by
 rcases h with ⟨a,rfl,rfl⟩ | ⟨a,h⟩
 ·rcases h' with ⟨_,rfl,rfl⟩ | ⟨b,_⟩
  ·exact ⟨rfl,rfl⟩
  rw [a] at b;cases b
 rcases h' with ⟨b,_⟩ | ⟨_,h'⟩
 ·rw [a] at b;cases b
 rcases h with ⟨a1,rfl,rfl⟩ | ⟨k,a1,h⟩
 ·rcases h' with ⟨_,rfl,rfl⟩ | ⟨k,b,_⟩
  ·exact ⟨rfl,rfl⟩
  rw [a1] at b;cases b
 rcases h' with ⟨b,_⟩ | ⟨k',b,h'⟩
 ·rw [a1] at b;cases b
 rw [a1] at b;obtain rfl:=Qs b;rcases h with ⟨a2,rfl,rfl⟩ | ⟨a2,h⟩
 ·rcases h' with ⟨_,rfl,rfl⟩ | ⟨b,_⟩
  ·exact ⟨rfl,rfl⟩
  exact absurd b a2
 rcases h' with ⟨b,_⟩ | ⟨_,h'⟩
 ·exact absurd a2 b
 rcases h with ⟨a3,rfl,rfl⟩ | ⟨a3,h⟩
 ·rcases h' with ⟨_,rfl,rfl⟩ | ⟨b,_⟩
  ·exact ⟨rfl,rfl⟩
  omega
 rcases h' with ⟨b,_⟩ | ⟨_,h'⟩
 ·omega
 rcases h with ⟨a4,rfl,rfl⟩ | ⟨a4,rfl,rfl⟩
 ·rcases h' with ⟨_,rfl,rfl⟩ | ⟨b,_⟩
  ·exact ⟨rfl,rfl⟩
  rcases a4 with c | c
  ·omega
  rw [b.2] at c;cases c
 rcases h' with ⟨b,_⟩ | ⟨_,rfl,rfl⟩
 ·rcases b with c | c
  ·omega
  rw [a4.2] at c;cases c
 exact ⟨rfl,rfl⟩
theorem XZ {w:World}{S:Nat->Prop}{A B C:Nat}{c:Array Value}{t:TypeId}(n1 n2:Qg)(i1 i2:Int)(hA:w.heap[A]? =some (.cells #[.string ⟨n1.toArray⟩,.string ⟨n2.toArray⟩] 9 (0,0)))(hB:w.heap[B]? =some (.cells #[.int .i64 i1,.int .i64 i2] 3 (0,0)))(hC:w.heap[C]? =some (.cells c t (0,0)))(o:Nat)(h0:c[o]? =some (.slice (some ⟨A,0,none⟩) 2 2))(h1:c[o+1]? =some (.slice (some ⟨B,0,none⟩) 2 2))(sA:S A)(sB:S B)(sC:S C)(l1:n1.length<140737488355328)(l2:n2.length<140737488355328):
  S C/\(∃ad cap,w.cell? ⟨C,o,none⟩=some (.slice ad (([n1,n2],[i1,i2]):Pu).1.length cap)/\RE w S (.slice ad (([n1,n2],[i1,i2]):Pu).1.length cap) [n1,n2])/\∃ad cap,w.cell? ⟨C,o+1,none⟩=some (.slice ad (([n1,n2],[i1,i2]):Pu).2.length cap)/\Rl w S (.slice ad (([n1,n2],[i1,i2]):Pu).2.length cap) [i1,i2]:=by
 refine ⟨sC,⟨_,_,P0 hC h0,.inr ⟨A,0,2,rfl,by simp,by simp,λj hj=> ?_⟩⟩,_,_,P0 hC h1,.inr ⟨B,0,2,rfl,by simp,by simp,λj hj=> ?_⟩⟩
 ·match j,hj with
  | 0,_=>exact ⟨sA,P0 hA rfl,l1⟩
  | 1,_=>exact ⟨sA,P0 hA rfl,l2⟩
 match j,hj with
 | 0,_=>exact ⟨sB,P0 hB rfl⟩
 | 1,_=>exact ⟨sB,P0 hB rfl⟩
def RG:Pu:=([[78,105,108],[67,111,110,115]],[0,2])
theorem ay1 (w:World):Calls Tryz.prog 17 #[] w λr w'=>Below w.heap.size w w'/\r= .returned (.slice (some ⟨w.heap.size+2,0,none⟩) 1 1)/\w'.heap.size=w.heap.size+3/\PH w' (λy=>w.heap.size<=y/\y<w'.heap.size) (.slice (some ⟨w.heap.size+2,0,none⟩) 1 1) [RG]:=by
 go_enter Tryz.func17,Tryz.ntmps17;go_wp2;refine Qv (v:= .slice (some ⟨w.heap.size+2,0,none⟩) 1 1) (by simp [results,Tryz.results17,go_sem]) rfl ?_;obtain ⟨W1,h1⟩:∃W1,W1=w.alloc (Obj.cells #[.string ⟨#[78,105,108]⟩,.string ⟨#[67,111,110,115]⟩] 9):=⟨_,rfl⟩;rw [<-h1];obtain ⟨W2,h2⟩:∃W2,W2=W1.alloc (Obj.cells #[.int .i64 0,.int .i64 2] 3):=⟨_,rfl⟩;rw [<-h2];obtain ⟨W3,h3⟩:∃W3,W3=W2.alloc (Obj.cells #[.slice (some ⟨w.heap.size,0,none⟩) 2 2,.slice (some ⟨w.heap.size+1,0,none⟩) 2 2] 48):=⟨_,rfl⟩;rw [<-h3];have s1:W1.heap.size=w.heap.size+1:=by rw [h1];simp
 have s2:W2.heap.size=w.heap.size+2:=by rw [h2];simp [s1]
 have s3:W3.heap.size=w.heap.size+3:=by rw [h3];simp [s2]
 have e1:W1.heap[w.heap.size]? =some (.cells #[.string ⟨#[78,105,108]⟩,.string ⟨#[67,111,110,115]⟩] 9 (0,0)):=by rw [h1];exact PF w _
 have e2:W2.heap[w.heap.size+1]? =some (.cells #[.int .i64 0,.int .i64 2] 3 (0,0)):=by rw [h2,<-s1];exact PF W1 _
 have e3:W3.heap[w.heap.size+2]? =some (.cells #[.slice (some ⟨w.heap.size,0,none⟩) 2 2,.slice (some ⟨w.heap.size+1,0,none⟩) 2 2] 48 (0,0)):=by rw [h3,<-s2];exact PF W2 _
 have k1:W3.heap[w.heap.size]? =W1.heap[w.heap.size]? :=by rw [h3,Qq _ _ _ (by omega),h2,Qq _ _ _ (by omega)]
 have k2:W3.heap[w.heap.size+1]? =W2.heap[w.heap.size+1]? :=by rw [h3,Qq _ _ _ (by omega)]
 refine ⟨?_,rfl,s3,.inr ⟨w.heap.size+2,0,1,rfl,by simp,by simp,λj hj=> ?_⟩⟩
 ·rw [h3,h2,h1];exact (((Pb _ _).alloc (P6 _) _).alloc (by simp) _).alloc (by simp;omega) _
 match j,hj with
 | 0,_=>exact XZ (S:=λy=>w.heap.size<=y/\y<W3.heap.size) [78,105,108] [67,111,110,115] 0 2 (k1.trans e1) (k2.trans e2) e3 0 rfl rfl ⟨P6 _,by omega⟩ ⟨by omega,by omega⟩ ⟨by omega,by omega⟩ (by simp) (by simp)
def NH:Qg:=[78,105,108]
def Yh:Qg:=[67,111,110,115]
def TB:Pt:=⟨2,((4,Yh,0),[((2,[120],0),[]),((4,NH,0),[])])⟩
def Zs:Kn:=[(NH,0,0,0),(Yh,0,1,2)]
def Zd (f:Nat):Tr (f+3):=((3,0,[0]),[((Yh,0),((3,0,[0,1]),[((NH,0),((2,0,[]),[],[]))],[((1,0,[]),[],[])]))],[((1,0,[]),[],[])])
theorem Xx:Po 0 [] [RG]=some Zs:=by decide
theorem LC (f:Nat):Pj (f+3) Zs [RG] [[TB]]=(Zd f,5):=by rfl
theorem Xa:Rh [[TB]]=false:=by decide
theorem XY (f:Nat):Pa (f+3) (Zd f)=3:=by rfl
theorem XM:RU [[TB]]=false:=by decide
theorem XF:QA [] (([[TB]]:List (List Pt)).headD []).length (Qy [[TB]])=[([],0,[(0,TB)])]:=by rfl
theorem Wr:UO Zs [[TB]]:=by
 refine ⟨λx hx=>by rw [Ra.1 hx];rfl,λc hc d=> ?_⟩;rw [XF] at hc;rw [Ra.1 hc]
 match d with
 | 0=>rfl
 | 1=>rfl
 | d+2=>rfl
def Mj:List Qj:=[([0,1],((4,Yh,0),2)),([0],((4,Yh,0),2))]
theorem XE (f:Nat):Qx Zs [RG] (f+3) (Zd f)=some Mj:=by rfl
theorem XK (f:Nat):((List.range ([[TB]]:List (List Pt)).length).filter λr=> !(Py (f+3) (Zd f)).contains r)=[]:=by rfl
theorem Vw (f:Nat):Rq (f+3) Zs [RG] (f+3) (Zd f) [[TB]]=(false,[],Qi (f+3) 1 Mj):=by
 unfold Rq;rw [XE,XK]
 rfl
theorem tr0 (f:Nat):RR (f+3) [RG] [[TB]] 0 (some (Zd f,(false,[],Qi (f+3) 1 Mj))):=by
 refine .inr ⟨Xa,.inr ⟨Zs,Xx,.inr ⟨Wr,.inr ⟨by rw [LC];exact (by decide:5<=5000),.inr ⟨⟨by rw [LC,XY];decide,XM⟩,rfl,?_⟩⟩⟩⟩⟩;rw [LC,Vw]
def Ye (w:World)(Z:Nat->Prop)(r:Value):Prop:=∃pa pc gc oc cc ge oe ec ad1 c1 gm om cm,r= .tuple #[.agg #[.int .i64 3,.int .i64 0,.slice pa 1 pc,.slice (some ⟨gc,oc,none⟩) 1 cc,.slice (some ⟨ge,oe,none⟩) 1 ec],.agg #[.bool false,.slice ad1 0 c1,.slice (some ⟨gm,om,none⟩) 1 cm],.int .i64 0]/\
 (Z gc/\Z ge/\Z gm)/\w.cell? ⟨ge,oe,none⟩=some (.int .i64 1)/\w.cell? ⟨gm,om+1,none⟩=some (.string ⟨Yh.toArray⟩)/\w.cell? ⟨gc,oc,none⟩=some (.string ⟨Yh.toArray⟩)/\
 ∃dH dI fG jD fq fH jE eB,(w.cell? ⟨gc,oc+2,none⟩=some (.int .i64 3)/\w.cell? ⟨gc,oc+3,none⟩=some (.int .i64 0)/\w.cell? ⟨gc,oc+4,none⟩=some (.slice dH 2 dI)/\w.cell? ⟨gc,oc+5,none⟩=some (.slice fG jD fq)/\w.cell? ⟨gc,oc+6,none⟩=some (.slice fH jE eB))/\Pv w Z (.slice dH 2 dI) [0,1]
def YS (W:World)(r:Ending)(w':World):Prop:=Below W.heap.size W w'/\∃x,r= .returned x/\Ye w' (λy=>W.heap.size<=y/\y<w'.heap.size) x
theorem Vj {F:Nat}(hF:F=5001){W:World}{S:Nat->Prop}(fa:Option Addr)(fc:Nat)(rv:Value)(hS:∀b,S b->b<W.heap.size)(ee:PH W S (.slice fa 1 fc) [RG])(hR:RH W S rv [[TB]]):Calls Tryz.prog 9 #[.slice fa 1 fc,rv] W (YS W):=by
 obtain ⟨f,rfl⟩:∃f,F=f+3:=⟨4998,hF⟩;refine Pe (zq hF [RG] [[TB]] fa fc rv hS ee hR (by simp) (by simp [RG]) (by decide)) ?_;rintro r w' ⟨hb,⟨e,hc,he,_⟩ | ⟨t,c,x,ad1,c1,ad2,c2,hc,rfl,ht,h1,h2⟩⟩
 ·exact absurd (FD (tr0 f) hc).1 he
 obtain ⟨_,h3⟩:=FD (tr0 f) hc;injection h3 with h3;injection h3 with h3 h4;subst h3 h4;refine ⟨hb,?_⟩;obtain ⟨pa,pc,ca,cc,ea,ec,rfl,hN,eP,fz⟩:=ht;rcases eP with ⟨e,_⟩ | ⟨gc,oc,cc',e1,_,hcc,ci4⟩
 ·cases e
 rcases fz with ⟨e,_⟩ | ⟨ge,oe,ec',e2,_,aj2,cn2⟩
 ·cases e
 rcases h2 with ⟨e,_⟩ | ⟨gm,om,cm,e3,_,aX,IL⟩
 ·cases e
 have q:RK w' (λy=>W.heap.size<=y/\y<w'.heap.size) (f+2) gc oc ((Yh,0),((3,0,[0,1]),[((NH,0),((2,0,[]),[],[]))],[((1,0,[]),[],[])])):=ci4 0 Nat.one_pos;have q2:SV w' (λy=>W.heap.size<=y/\y<w'.heap.size) (f+2) ge oe ((1,0,[]),[],[]):=cn2 0 Nat.one_pos;have q3:=(RN.open (IL 0 Nat.one_pos)).2.2.1;have s3:=(RN.open (IL 0 Nat.one_pos)).1;obtain ⟨s0,k0,k1,_,v0,v1,v2,v3,v4,k2,k3,k4,k5,k6,bh⟩:=q;obtain ⟨dH,dI,fG,fq,fH,eB,e4,C2,_,_⟩:=bh;obtain ⟨s1,u0,u1,u2,u3,u4,d0,d1,d2,d3,d4,cb3⟩:=q2;obtain ⟨vP,vQ,vR,tK,vS,vT,e5,_⟩:=cb3;injection e1 with e1 _ _;injection e2 with e2 _ _;injection e3 with e3 _ _;subst e1 e2 e3;injection e4 with e4;injection e5 with e5;have a0:v0= .int .i64 3:=by injection e4 with e4;injection e4
 have a1:v1= .int .i64 0:=by injection e4 with e4;injection e4 with _ e4;injection e4
 have a2:v2= .slice dH 2 dI:=by injection e4 with e4;injection e4 with _ e4;injection e4 with _ e4;injection e4
 have a3:v3= .slice fG 1 fq:=by injection e4 with e4;injection e4 with _ e4;injection e4 with _ e4;injection e4 with _ e4;injection e4
 have a4:v4= .slice fH 1 eB:=by injection e4 with e4;injection e4 with _ e4;injection e4 with _ e4;injection e4 with _ e4;injection e4 with _ e4;injection e4
 have b0:u0= .int .i64 1:=by injection e5 with e5;injection e5
 subst a0 a1 a2 a3 a4 b0;exact ⟨_,rfl,pa,pc,gc,oc,cc,ge,oe,ec,ad1,c1,gm,om,c2,rfl,⟨s0,s1,s3⟩,d0,q3,k0,dH,dI,fG,1,fq,fH,1,eB,⟨k2,k3,k4,k5,k6⟩,C2⟩
theorem Z7 {W:World}{S:Nat->Prop}{A X Y:Nat}(hA:W.heap[A]? =some (.cells #[.int .i64 2,.string ⟨#[120]⟩,.int .i64 0,.slice none 0 0,.int .i64 4,.string ⟨#[78,105,108]⟩,.int .i64 0,.slice none 0 0] 50 (0,0)))(hX:W.heap[X]? =some (.cells #[.int .i64 4,.string ⟨#[67,111,110,115]⟩,.int .i64 0,.slice (some ⟨A,0,none⟩) 2 2] 50 (0,0)))(hY:W.heap[Y]? =some (.cells #[.slice (some ⟨X,0,none⟩) 1 1] 31 (0,0)))(sA:S A)(sX:S X)(sY:S Y):RH W S (.slice (some ⟨Y,0,none⟩) 1 1) [[TB]]:=by
 have leaf:∀(l:Lb),l.2.1.length<140737488355328->∀o,W.cell? ⟨A,o,none⟩=some (.int .i64 l.1)->W.cell? ⟨A,o+1,none⟩=some (.string ⟨l.2.1.toArray⟩)->W.cell? ⟨A,o+2,none⟩=some (.int .i64 l.2.2)->W.cell? ⟨A,o+3,none⟩=some (.slice none 0 0)->Td W S 1 A o (l,[]):=λl hl o h0 h1 h2 h3=>⟨sA,h0,h1,h2,hl,by simp,_,h3,.inl ⟨rfl,_,_,rfl⟩⟩;have hp:Td W S 2 X 0 TB.2:=by
  refine ⟨sX,P0 hX rfl,P0 hX rfl,P0 hX rfl,by decide,by decide,_,P0 hX rfl,.inr ⟨A,0,2,rfl,by simp [TB],P6 _,λj hj=> ?_⟩⟩
  match j,hj with
  | 0,_=>exact leaf (2,[120],0) (by decide) 0 (P0 hA rfl) (P0 hA rfl) (P0 hA rfl) (P0 hA rfl)
  | 1,_=>exact leaf (4,NH,0) (by decide) 4 (P0 hA rfl) (P0 hA rfl) (P0 hA rfl) (P0 hA rfl)
 refine .inr ⟨Y,0,1,rfl,by simp,by simp,λj hj=> ?_⟩
 match j,hj with
 | 0,_=>
  refine ⟨sY,_,_,P0 hY rfl,.inr ⟨X,0,1,rfl,by simp,by simp,λj hj=> ?_⟩⟩
  match j,hj with
  | 0,_=>exact hp
