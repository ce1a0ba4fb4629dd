import Derived.Test.YtpdmkhnonbbhnaaGreatMBx
import Derived.Test.YtpdmkhnonbbhnaaGreatMsx
import Derived.Test.YtpdmkhnonbbhnaaGreatMCx
import Derived.Test.YtpdmkhnonbbhnaaGreatMpx
import Derived.Test.YtpdmkhnonbbhnaaGreatRt
import Derived.Test.YtpdmkhnonbbhnaaGreatRu
import Derived.Test.YtpdmkhnonbbhnaaGreatMxx
namespace Go.Proofs.YtpdmkhnonbbhnaaGreat
open Go.RowKit Go.Maps
set_option maxHeartbeats 16000000
set_option maxRecDepth 10000
section
variable {rows:List (List Pt)}{k:Kn}
def Rc (n:Nat):List (List Nat):=(List.range n).map λc=> [c]
theorem ZV (n:Nat):(Rc n).length=n:=by simp [Rc]
theorem bu1 (n:Nat):Rc (n+1)=Rc n++[[n]]:=by
 unfold Rc;rw [YH,R6]
 rfl
theorem bv1 (n j:Nat)(h:j<n):(Rc n).getD j []=[j]:=by
 unfold Rc;simp [List.getD,h]
theorem Vh {n:Nat}{lines:List (Nat×List Pt)}{s:Sp}(h:s∈Pq n lines):s.1∈lines.map (·.1):=by
 unfold Pq at h;obtain ⟨l,hl,e⟩:=SE.1 h;refine PI.2 ⟨l,hl,?_⟩;split at e
 ·split at e
  ·cases e
  injection e with e;rw [<-e]
 cases e
theorem bw1 (n:Nat)(rows:List (List Pt)):PK (Pq n (Qy rows)) (List.range rows.length)=Pq n (Qy rows):=by
 unfold PK;rw [Oo];intro s hs;have:=Vh hs;rw [Nx] at this;exact Zb.2 this
theorem yT {aH:Nat}(hw:∀x∈rows,x.length=aH):Mch (QA [] aH (Qy rows)) (List.range rows.length) (Qy rows) (Rc aH):=by
 refine ⟨(Nx rows).symm,by rw [Nx];exact List.nodup_range,λr hr=> ?_,?_⟩
 ·rw [ZV];refine hw _ ?_;have:r.2∈(Qy rows).map (·.2):=PI.2 ⟨r,hr,rfl⟩
  rwa [Lx] at this
 unfold QA;rw [WR,ZV];refine Vb λn hn=> ?_;rw [T2] at hn;unfold RC;rw [bv1 _ _ hn];cases h:(Pq n (Qy rows)).isEmpty with
 | true=>rfl
 | false=>
  rw [P7 (by simp),P7 (by simp)];show QB _ _=_;unfold QB;rw [bw1];dsimp only;rw [h]
  rfl
theorem VF (hl:rows.length<=200)(cj:∀r∈rows,r.length<=16)(j9:UO k rows)(hsz:(rows.map Q6).sum<=100000):RP k 5001 (Qy rows) (Rc (rows.headD []).length):=by
 have hm:=yT j9.1;have dR:(rows.headD []).length<=16:=by
  cases hr:rows with
  | nil=>simp
  | cons a r=>exact cj a (by rw [hr];simp)
 refine ⟨hm.wid,hm.nd,by rw [WT];exact hl,by rw [ZV];omega,λp hp=> ?_,λj=> ?_,λr hr p hp=> ?_⟩
 ·unfold Rc at hp;obtain ⟨c,_,rfl⟩:=PI.1 hp;simp
 ·by_cases he:Pq j (Qy rows)=[]
  ·rw [he];exact Th.nil k
  by_cases hj:j<(rows.headD []).length
  ·have hc:([],j,Pq j (Qy rows))∈QA [] (rows.headD []).length (Qy rows):=by
    unfold QA;refine SE.2 ⟨j,T2.2 hj,?_⟩;rw [P7 (by rw [ZB];exact he)]
   exact (Z6 hl hc (j9.2 _ hc _) 0).right
  exfalso;refine he ?_;unfold Pq;rw [List.filterMap_eq_nil_iff];intro l hl;have:l.2.length=(rows.headD []).length:=by
   have:=hm.wid l hl
   rwa [ZV] at this
  rw [Z3 (by omega)]
 have h1:r.2∈rows:=by
  have:r.2∈(Qy rows).map (·.2):=PI.2 ⟨r,hr,rfl⟩
  rwa [Lx] at this
 have h2:=WQ hp;have h3:=YZ _ _ (PI.2 ⟨r.2,h1,rfl⟩:Q6 r.2∈rows.map Q6);omega
theorem bz1 {fs:List Pu}(hk:KnOk k fs){F:Nat}(hF:F=5001){rows:List (List Pt)}(hl:rows.length<=200)(j9:UO k rows):Q4 k fs F 0 (Qy rows) (Rc (rows.headD []).length)=QT (Pj F k fs rows):=
 N7 hk F 0 _ _ _ _ 0 (yT j9.1) (λc hc=>Z6 hl hc (j9.2 c hc _) 0) (by omega)
def U1 (l:List Pt):Nat:=(l.map Pt.deep).foldl max 0
theorem VM (l:List Pt)(p:Pt):U1 (l++[p])=max (U1 l) p.deep:=by
 unfold U1;rw [R6,Nn]
 rfl
theorem WD (rows:List (List Pt)):RU rows=decide (1000<U1 rows.flatten):=by
 unfold U1;rw [Nv,Ol,JO];unfold RU;rw [UG];constructor
 ·rintro ⟨r,hr,h⟩;obtain ⟨p,hp,h⟩:=UG.1 h;exact .inr ⟨p.deep,PI.2 ⟨p,RF.2 ⟨r,hr,hp⟩,rfl⟩,(Ny _ _).1 h⟩
 rintro (h | ⟨d,hd,h⟩)
 ·omega
 obtain ⟨p,hp,rfl⟩:=PI.1 hd;obtain ⟨r,hr,hp⟩:=RF.1 hp;exact ⟨r,hr,UG.2 ⟨p,hp,(Ny _ _).2 h⟩⟩
theorem cb1 (rows:List (List Pt))(i:Nat)(h:i<rows.length):(rows.take (i+1)).flatten=(rows.take i).flatten++rows[i]:=by
 rw [Yj h,Tu];simp
theorem cd1 (rows:List (List Pt))(i:Nat)(h:i<rows.length):(Qy rows).take (i+1)=(Qy rows).take i++[(i,rows[i])]:=by
 rw [Yj (by rw [WT];exact h),FV]
end
section
variable {F:Nat}{S:Nat->Prop}
def Zh (F:Nat)(fs:List Pu)(rows:List (List Pt))(S:Nat->Prop)(w:World)(r:Ending)(w':World):Prop:=Below w.heap.size w w'/\
 ((∃e:Int,RR F fs rows e none/\e≠0/\r= .returned (.tuple #[.agg Rv,.agg RQ,.int .i64 e]))\/
   ∃(t:Tr F) (c:Cv F) (x:Value) (ad1:Option Addr) (c1:Nat) (ad2:Option Addr) (c2:Nat),RR F fs rows 0 (some (t,c))/\r= .returned (.tuple #[x,.agg #[.bool c.1,.slice ad1 c.2.1.length c1,.slice ad2 c.2.2.length c2],.int .i64 0])/\PL w' (λy=>S y\/(w.heap.size<=y/\y<w'.heap.size)) F x t/\Pv w' (λy=>S y\/(w.heap.size<=y/\y<w'.heap.size)) (.slice ad1 c.2.1.length c1) c.2.1/\Pl w' (λy=>S y\/(w.heap.size<=y/\y<w'.heap.size)) (.slice ad2 c.2.2.length c2) (c.2.2.map λu=>(⟨F+1,u⟩:Pt)))
theorem ce1 {α:Type}{E:Elt α}{al:Array Oper}{rest:List Oper}{o:Oper}{a:Act}{Q:Exit->Act->World->Prop}{w1 w2:World}{B t e b:Nat}(T:Ty t e E.k b)(ez:o.guard=none)(s x:Operand)
  (ho:o.op= .call {callee:= .builtin .append,args:= #[s,x],argTypes:= #[t,t]}) {v:Value}{l:List α}{cs:List Value}{p:α}{cap:Nat}(hs:a.eval s=v) (hown:Pi E e B S w1 v l) (hS:∀y,S y->y<B) (hB:B<=w1.heap.size) (hb:Below w1.heap.size w1 w2) (H:Nat) (hx:a.eval x= .slice (some ⟨H,0,none⟩) 1 cap) (hH:w2.heap.size=H) (hC:E.C w2 (RL S B w2 v) cs p) (aM:1<=cap) (hl:l.length+1<=10000000)
  (h:∀v' w',Pi E e B S w' v' (l++[p])->Below B w1 w'->w2.heap.size<=w'.heap.size->wpList Tryz.prog al Q rest (a.put o.dst v') w'):wpList Tryz.prog al Q (o::rest) a (w2.alloc (.cells cs.toArray e)):=by
 subst hH;exact Ue T ez s x ho hs hown hS hB hb hx hC aM hl h
theorem VL (hF:F=5001){k:Kn}{fs:List Pu}(aF:Po 0 [] fs=some k)(aY:fs.length<=10000){rows:List (List Pt)}(hl:rows.length<=200)(cj:∀r∈rows,r.length<=16)(j9:UO k rows)(hsz:(rows.map Q6).sum<=100000){w:World}{S:Nat->Prop}{fa:Option Addr}{fc:Nat}{rv av:Value}(hS:∀y,S y->y<w.heap.size)(ee:PH w S (.slice fa fs.length fc) fs)(hr:PC Qc w S S rv (Qy rows))(ha:PC Qp w S S av (Rc (rows.headD []).length)):
  Calls Tryz.prog 23 #[.slice fa fs.length fc,rv,av,.int .i64 5000] w λr w'=>∃a b pa pl pc ca cl cc ea el ec,∃lv:Int,r= .returned (.tuple #[.agg #[.int .i64 a,.int .i64 b,.slice pa pl pc,.slice ca cl cc,.slice ea el ec],.int .i64 lv])/\Below w.heap.size w w'/\Hid ((lv<0->5000<(Pj F k fs rows).2)/\(¬lv<0->(Pj F k fs rows).2<=5000/\PL w' (λy=>w.heap.size<=y/\y<w'.heap.size) F (.agg #[.int .i64 a,.int .i64 b,.slice pa pl pc,.slice ca cl cc,.slice ea el ec]) (Pj F k fs rows).1)):=by
 have h:=K7 (fa:=fa) (fc:=fc) aF aY F 0 (Qy rows) (Rc (rows.headD []).length) rv av S w ⟨⟨by omega,by omega⟩,by omega,hS,ee,hr,ha,by rw [hF];exact VF hl cj j9 hsz⟩;rw [show (5000-((0:Nat):Int))=5000 from rfl] at h;refine h.mono λr w' h=> ?_;obtain ⟨hb,a,b,pa,pl,pc,ca,cl,cc,ea,el,ec,lv,h1,h2⟩:=h.flat;have ht:=bz1 (fs:=fs) (SJ aF) hF hl j9;refine ⟨a,b,pa,pl,pc,ca,cl,cc,ea,el,ec,lv,h1,hb,λjz=> ?_,λjz=> ?_⟩
 ·have:=(h2.1 jz).2;rw [ht] at this;unfold QT at this;split at this
  ·cases this
  omega
 obtain ⟨t,m,h3,h4,_,h5⟩:=h2.2 jz;rw [ht] at h3;unfold QT at h3;split at h3
 ·injection h3 with h3;rw [h3];exact ⟨h4,h5⟩
 cases h3
theorem M0 (w:World):w.drew.heap=w.heap:=rfl
theorem Zh.drew {fs:List Pu}{rows:List (List Pt)}{w U:World}{r:Ending}(h:Zh F fs rows S w r U):Zh F fs rows S w r U.drew:=by
 obtain ⟨h1,h2 | ⟨t,c,x,ad1,c1,ad2,c2,h3,h4,h5,h6,h7⟩⟩:=h
 ·exact ⟨h1.drew,.inl h2⟩
 exact ⟨h1.drew,.inr ⟨t,c,x,ad1,c1,ad2,c2,h3,h4,PL.below (show OZ _ U U.drew from λ_ _=>rfl) (λ_ h=>h) _ _ _ h5,h6.on (show OZ _ U U.drew from λ_ _=>rfl),h7.on (show OZ _ U U.drew from λ_ _=>rfl)⟩⟩
theorem LZ (hF:F=5001){w:World}{S:Nat->Prop}(fs:List Pu)(rows:List (List Pt))(fa:Option Addr)(fc:Nat)(rv:Value)(hS:∀b,S b->b<w.heap.size)(ee:PH w S (.slice fa fs.length fc) fs)(hR:RH w S rv rows)(aY:fs.length<=10000)(sV:(fs.map λf=>f.1.length).sum<=10000)(hsz:(rows.map Q6).sum<=100000)(cH:rows.length<=100000):
  Calls Tryz.prog 6 #[.slice fa fs.length fc,rv] w (Zh F fs rows S w):=by
 have HF:=P4 hF;clear hF;have jJ:=Cq.start w;unfold Rv RQ at jJ;obtain ⟨W,hW⟩:∃W,W=(w.alloc (.cells #[.int .i64 0,.int .i64 0,.slice none 0 0,.slice none 0 0,.slice none 0 0] 30)).alloc (.cells #[.bool false,.slice none 0 0,.slice none 0 0] 33):=⟨_,rfl⟩;rw [<-hW] at jJ;have gq:=P4 jJ;obtain ⟨fP,ci,rfl,eR⟩:=Pd.open hR;have br:=Oh hS ee hR aY sV hsz;have eS:Hid (∀V,Cq w V->(∀b,S b->b<V.heap.size)/\OZ S w V):=λV hV=>⟨λy hy=>by have:=hS y hy;have:=hV.below.size;omega,OZ.of hV.below hS⟩;have nL:=P4 eR;have vV:Hid (∀j (h:j<rows.length),∃g o ad cap,fP=some ⟨g,o,none⟩/\rows.length<=ci/\∀V,Cq w V->V.cell? ⟨g,o+j,none⟩=some (.slice ad rows[j].length cap)/\Pl V S (.slice ad rows[j].length cap) rows[j]):=λj h=>by
  obtain ⟨g,o,h1,h2,h3⟩:=eR (λe=>by rw [e] at h;simp at h);obtain ⟨s,ad,cap,h4,h5⟩:=h3 j h;rw [R4] at h4;exact ⟨g,o,ad,cap,h1,h2,λV hV=>⟨((eS.out V hV).2.cell (p:=⟨g,o+j,none⟩) s).trans h4,h5.on (eS.out V hV).2⟩⟩
 clear hS ee hR aY sV hsz jJ eR;by_cases hlong:200<rows.length
 ·have cE:Hid (RR F fs rows 2 none):= .inl ⟨by unfold Rh;simp [hlong],rfl,rfl⟩;have i1:(200:Int)<(rows.length:Int):=by omega
  go_enter Tryz.func6,Tryz.ntmps6
  go_upto_region 2 with fail
  rw [<-hW];clear hW;obtain ⟨⟨g0,g1,g2,g3,g4⟩,⟨h0,h1,h2⟩,zt,zc⟩:=gq.cells;have z0:=zt 0;have z1:=zt 1;have z2:=zt 2;have z3:=zt 3;have z4:=zt 4;have y0:=zc 0;have y1:=zc 1;have y2:=zc 2;obtain ⟨U,hU,aN,bG,aZ,_,_⟩:=gq.store (.int .i64 0) (.int .i64 0) (.slice none 0 0) (.slice none 0 0) (.slice none 0 0) (.bool false) (.slice none 0 0) (.slice none 0 0);unfold Tx at hU;have eK:=P4 aZ;clear zt zc aZ;go_wp2;rw [<-hU];have u0:=P0 (i:=0) aN rfl;have u1:=P0 (i:=1) aN rfl;have u2:=P0 (i:=2) aN rfl;have u3:=P0 (i:=3) aN rfl;have u4:=P0 (i:=4) aN rfl;have v0:=P0 (i:=0) bG rfl;have v1:=P0 (i:=1) bG rfl;have v2:=P0 (i:=2) bG rfl;refine Qv (v:= .tuple #[.agg Rv,.agg RQ,.int .i64 2]) (by simp [results,Tryz.results6,go_sem,u0,u1,u2,u3,u4,v0,v1,v2,Rv,RQ]) rfl ?_;exact ⟨eK.out,.inl ⟨2,cE.out,by decide,rfl⟩⟩
 have hl:rows.length<=200:=by omega
 have i1:¬(200:Int)<(rows.length:Int):=by omega
 clear hlong cH;go_enter Tryz.func6,Tryz.ntmps6
 go_upto_region 2 with fail
 rw [<-hW];clear hW
 go_loopw [7] (λiv wr=>∃i:Nat,i<=rows.length/\iv= .int .i64 i/\wr=W/\Hid (∀j (h:j<rows.length),j<i->rows[j].length<=16)) (λiv _=>rows.length-(intOf iv).toNat)
 case atStart=>exact ⟨0,by omega,by go_num,rfl,λj _ h=>absurd h (WP _)⟩
 obtain ⟨i,hi,rfl,aW,HM⟩:=hrel;subst wr;by_cases ag:i<rows.length
 ·obtain ⟨g,o,ad,cap,rfl,fF,au⟩:=vV.out i ag;obtain ⟨q,_⟩:=au W gq.out;have i2:(0:Int)<=(i:Int):=by omega
  have i3:(i:Int)<(rows.length:Int):=by omega
  clear au;by_cases h16:16<rows[i].length
  ·have cE:Hid (RR F fs rows 2 none):= .inl ⟨by
    unfold Rh;rw [Fz];exact .inr (UG.2 ⟨rows[i],Px ag,by simpa using h16⟩),rfl,rfl⟩
   have i4:(16:Int)<(rows[i].length:Int):=by omega
   clear h16;generalize rows[i].length=ln at *
   go_upto_region 7 with fail
   clear q;obtain ⟨⟨g0,g1,g2,g3,g4⟩,⟨h0,h1,h2⟩,zt,zc⟩:=gq.cells;have z0:=zt 0;have z1:=zt 1;have z2:=zt 2;have z3:=zt 3;have z4:=zt 4;have y0:=zc 0;have y1:=zc 1;have y2:=zc 2;obtain ⟨U,hU,aN,bG,aZ,_,_⟩:=gq.store (.int .i64 0) (.int .i64 0) (.slice none 0 0) (.slice none 0 0) (.slice none 0 0) (.bool false) (.slice none 0 0) (.slice none 0 0);unfold Tx at hU;have eK:=P4 aZ;clear zt zc aZ;go_wp2;rw [<-hU];have u0:=P0 (i:=0) aN rfl;have u1:=P0 (i:=1) aN rfl;have u2:=P0 (i:=2) aN rfl;have u3:=P0 (i:=3) aN rfl;have u4:=P0 (i:=4) aN rfl;have v0:=P0 (i:=0) bG rfl;have v1:=P0 (i:=1) bG rfl;have v2:=P0 (i:=2) bG rfl;refine Qv (v:= .tuple #[.agg Rv,.agg RQ,.int .i64 2]) (by simp [results,Tryz.results6,go_sem,u0,u1,u2,u3,u4,v0,v1,v2,Rv,RQ]) rfl ?_;exact ⟨eK.out,.inl ⟨2,cE.out,by decide,rfl⟩⟩
  have dJ:Hid (∀j (h:j<rows.length),j<i+1->rows[j].length<=16):=λj h bZ=>by
   by_cases e:j=i
   ·subst e;omega
   exact HM.out j h (by omega)
  have i4:¬(16:Int)<(rows[i].length:Int):=by omega
  clear h16;generalize rows[i].length=ln at *
  go_wp2;exact ⟨⟨i+1,ag,by go_num,trivial,dJ.out⟩,by simp [intOf];omega⟩
 obtain rfl:i=rows.length:=by omega
 have cX:Hid (rows.length<=200/\∀r∈rows,r.length<=16):=⟨hl,λr hr=>by
  obtain ⟨j,h,rfl⟩:=RO hr;exact HM.out j h h⟩
 have lm:Hid (Rh rows=false):=by
  show _=_;unfold Rh;rw [OJ,La,OQ];exact ⟨by omega,λr hr=>by have:=cX.2 r hr;simp;omega⟩
 have CF:=vg1 (w:=W) (S:=S) fs fa fc (eS.out W gq.out).1 (br.2.1.on (eS.out W gq.out).2) (by have:=br.2.2.2.1;omega) (by have:=br.2.2.2.2.1;omega);clear HM;cases aF:Po 0 [] fs with
 | none=>
  have cE:Hid (RR F fs rows 70 none):= .inr ⟨lm.out,.inl ⟨aF,rfl,rfl⟩⟩;rw [aF,Option.isSome_none] at CF;clear aF
  go_upto_region 10 with (first | (go_at_call 20;(with_reducible refine Pe CF ?_);rintro e' w1 ⟨rfl,hb1⟩))
  have HQ:=P4 (gq.on hb1);clear hb1;obtain ⟨⟨g0,g1,g2,g3,g4⟩,⟨h0,h1,h2⟩,zt,zc⟩:=HQ.cells;have z0:=zt 0;have z1:=zt 1;have z2:=zt 2;have z3:=zt 3;have z4:=zt 4;have y0:=zc 0;have y1:=zc 1;have y2:=zc 2;obtain ⟨U,hU,aN,bG,aZ,_,_⟩:=HQ.store (.int .i64 0) (.int .i64 0) (.slice none 0 0) (.slice none 0 0) (.slice none 0 0) (.bool false) (.slice none 0 0) (.slice none 0 0);unfold Tx at hU;have eK:=P4 aZ;clear zt zc aZ;go_wp2;rw [<-hU];have u0:=P0 (i:=0) aN rfl;have u1:=P0 (i:=1) aN rfl;have u2:=P0 (i:=2) aN rfl;have u3:=P0 (i:=3) aN rfl;have u4:=P0 (i:=4) aN rfl;have v0:=P0 (i:=0) bG rfl;have v1:=P0 (i:=1) bG rfl;have v2:=P0 (i:=2) bG rfl;refine Qv (v:= .tuple #[.agg Rv,.agg RQ,.int .i64 70]) (by simp [results,Tryz.results6,go_sem,u0,u1,u2,u3,u4,v0,v1,v2,Rv,RQ]) rfl ?_;exact ⟨eK.out,.inl ⟨70,cE.out,by decide,rfl⟩⟩
 | some k=>
  have cN:Hid (Po 0 [] fs=some k/\KnOk k fs):=⟨aF,SJ aF⟩;rw [aF,Option.isSome_some] at CF;clear aF;have pT:Hid (∀w1,Below W.heap.size W w1->Calls Tryz.prog 21 #[.slice fa fs.length fc,.slice fP rows.length ci] w1 λr w'=>∃b:Bool,r= .returned (.bool b)/\Below w1.heap.size w1 w'/\Hid (b=true↔UO k rows)):=λw1 hb1=>by
   have hq:=gq.on hb1;exact (bk1 cN.1 br.2.2.2.1 rows fa fP fc ci (eS.out w1 hq).1 (br.2.1.on (eS.out w1 hq).2) (br.2.2.1.on (eS.out w1 hq).2) cX.1 cX.2).mono λr w' h=>by
    obtain ⟨hb,b,h1,h2⟩:=h;exact ⟨b,h1,hb,h2⟩
  go_upto_region 12 with (first | (go_at_call 20;(with_reducible refine Pe CF ?_);rintro e' w1 ⟨rfl,hb1⟩;have CR:=pT.out w1 hb1) | (go_at_call 21;(with_reducible refine Pe CR ?_);rintro e' w2 ⟨b,rfl,hb2,HBR⟩))
  have HQ:=P4 ((gq.on hb1).on hb2);clear hb1 hb2 CF CR pT;cases b with
  | false=>
   have cE:Hid (RR F fs rows 71 none):= .inr ⟨lm.out,.inr ⟨k,cN.1,.inl ⟨λh=>absurd (HBR.2 h) (by decide),rfl,rfl⟩⟩⟩;clear HBR
   go_upto_region 13 with fail
   obtain ⟨⟨g0,g1,g2,g3,g4⟩,⟨h0,h1,h2⟩,zt,zc⟩:=HQ.cells;have z0:=zt 0;have z1:=zt 1;have z2:=zt 2;have z3:=zt 3;have z4:=zt 4;have y0:=zc 0;have y1:=zc 1;have y2:=zc 2;obtain ⟨U,hU,aN,bG,aZ,_,_⟩:=HQ.store (.int .i64 0) (.int .i64 0) (.slice none 0 0) (.slice none 0 0) (.slice none 0 0) (.bool false) (.slice none 0 0) (.slice none 0 0);unfold Tx at hU;have eK:=P4 aZ;clear zt zc aZ;go_wp2;rw [<-hU];have u0:=P0 (i:=0) aN rfl;have u1:=P0 (i:=1) aN rfl;have u2:=P0 (i:=2) aN rfl;have u3:=P0 (i:=3) aN rfl;have u4:=P0 (i:=4) aN rfl;have v0:=P0 (i:=0) bG rfl;have v1:=P0 (i:=1) bG rfl;have v2:=P0 (i:=2) bG rfl;refine Qv (v:= .tuple #[.agg Rv,.agg RQ,.int .i64 71]) (by simp [results,Tryz.results6,go_sem,u0,u1,u2,u3,u4,v0,v1,v2,Rv,RQ]) rfl ?_;exact ⟨eK.out,.inl ⟨71,cE.out,by decide,rfl⟩⟩
  | true=>
   have kr:Hid (UO k rows):=HBR.1 rfl;clear HBR
   go_upto_region 18 with fail
   go_loopw [10,12,13] (λvv dv iv wr=>∃i:Nat,i<=rows.length/\iv= .int .i64 i/\dv= .int .i64 (U1 (rows.take i).flatten:Nat)/\Hid (Below w2.heap.size w2 wr)/\Hid (Pi Qc 60 w2.heap.size S wr vv ((Qy rows).take i))) (λ_ _ iv _=>rows.length-(intOf iv).toNat)
   case atStart=>exact ⟨0,by omega,by go_num,by go_num,Pb _ _,Pi.nil _ _ _ _ _⟩
   obtain ⟨i,hi,rfl,rfl,HB,HO⟩:=hrel;by_cases ag:i<rows.length
   ·obtain ⟨g,o,ad,cap,rfl,fF,au⟩:=vV.out i ag;obtain ⟨q,hp⟩:=au wr (HQ.on HB.out);have FM:=P4 ((eS.out w2 HQ.out).1);have sW:Hid (Qc.C wr (RL S w2.heap.size wr u10) [.int .i64 i,.slice ad rows[i].length cap] (i,rows[i])):=⟨ad,cap,rfl,hp.up λ_ h=> .inl h⟩;have mA:Hid (((Qy rows).take i).length<=200):=by
     show _<=_;rw [RW,WT];omega
    have fD:Hid (∀V,Below w2.heap.size w2 V->V.cell? ⟨g,o+i,none⟩=some (.slice ad rows[i].length cap)/\Pl V S (.slice ad rows[i].length cap) rows[i]):=λV hV=>au V (HQ.on hV);have mz:Hid (∀j (h:j<rows[i].length),rows[i][j].sz<=100000):=λj h=>by
     have h2:=WQ (Px h);have h3:=YZ _ _ (PI.2 ⟨rows[i],Px ag,rfl⟩:Q6 rows[i]∈rows.map Q6);have:=br.2.2.2.2.2;omega
    have pf:=P4 (cb1 rows i ag);have ij:=P4 (cd1 rows i ag);have i2:(0:Int)<=(i:Int):=by omega
    have i3:(i:Int)<(rows.length:Int):=by omega
    clear au hp;have am5:rows[i].length<=16:=cX.2 _ (Px ag);generalize rows[i]=row at *
    go_upto_region 22 with (at_builtin;refine Ue (E:=Qc) (v:=u10) (cs:=[.int .i64 i,.slice ad row.length cap]) (p:=(i,row)) Tryz.ty57 rfl _ _ rfl rfl HO.out FM.out HB.size (Pb _ _) rfl sW.out (P6 _) (by have:=mA.out;omega) ?_;intro v3 w3 O3 B3 AY)
    have Af:Hid (Pi Qc 60 w2.heap.size S w3 v3 ((Qy rows).take (i+1))):=by
     show Pi _ _ _ _ _ _ _;rw [ij.out];exact O3
    have HB3:=P4 (HB.trans B3);clear q O3 B3 AY HO sW mA HB
    go_loopw [12,14] (λdv kv zz=>∃kk:Nat,kk<=row.length/\kv= .int .i64 kk/\dv= .int .i64 (U1 ((rows.take i).flatten++row.take kk):Nat)/\Hid (Below w3.heap.size w3 zz)) (λ_ kv _=>row.length-(intOf kv).toNat)
    case atStart=>exact ⟨0,by omega,by go_num,by rw [List.take_zero,SH],Pb _ _⟩
    obtain ⟨kk,kY,rfl,rfl,HT⟩:=hrel;have hb5:Below w2.heap.size w2 wr:=HB3.trans (HT.mono HB3.size);obtain ⟨q,hp⟩:=fD.out wr hb5;by_cases eZ:kk<row.length
    ·obtain ⟨g',o',rfl,gA,_,k0,k1,k2,ua,uc,k3,hu⟩:=hp.at eZ;have CN:=qn0 (row[kk].1+1) row[kk] (by omega) (mz.out kk eZ) wr S _ (λb hb=>PQ (FM.out b hb) hb5.size) hu;have bu:Hid (U1 ((rows.take i).flatten++row.take (kk+1))=max (U1 ((rows.take i).flatten++row.take kk)) row[kk].deep):=by
      show _=_;rw [Yj eZ,<-T5,VM]
     have i4:(0:Int)<=(kk:Int):=by omega
     have i5:(kk:Int)<(row.length:Int):=by omega
     clear hu hp hb5;generalize U1 ((rows.take i).flatten++row.take kk)=M at *
     generalize row[kk].deep=N at *
     generalize row[kk]=u at *
     go_upto_region 25 with (first | (go_at_call 22;(with_reducible refine Pe CN ?_);rintro e' w4 ⟨rfl,hb4⟩))
     have cZ:=P4 (HT.trans (hb4.mono HT.size));clear hb4 CN q k0 k1 k2 k3;go_wp2
     go_roundw
     case rel=>exact ⟨kk+1,eZ,by go_num,by rw [bu.out];congr 1;omega,cZ.out⟩
     case measure=>simp [intOf];omega
    obtain rfl:kk=row.length:=by omega
    rw [QM];rw [<-pf.out];have ur:=P4 hb5;have ce7:=P4 (Af.on FM.out HB3.size HT.out);clear hp hb5;generalize bw5:U1 (rows.take (i+1)).flatten=M at *
    go_wp2
    go_roundw
    case rel=>exact ⟨i+1,ag,by go_num,by rw [bw5],ur.out,ce7.out⟩
    case measure=>simp [intOf];omega
   obtain rfl:i=rows.length:=by omega
   rw [QM];rw [show (Qy rows).take rows.length=Qy rows from Xi (by rw [WT];exact P6 _)] at HO;generalize av3:wr=w6 at *
   clear av3;have aa7:Hid (U1 rows.flatten=U1 rows.flatten):=rfl;obtain ⟨n0,gy⟩:∃n0,n0=(rows.headD []).length:=⟨_,rfl⟩;have lH:=P4 gy.symm;have AZ:Hid (n0<=16):=by
    show _<=_;rw [gy];cases hr:rows with
    | nil=>simp
    | cons a r=>exact cX.out.2 a (by rw [hr];simp)
   have H6:Hid (Cq w w6/\w2.heap.size<=w6.heap.size/\∀y,S y->y<w6.heap.size):=⟨HQ.on HB.out,HB.size,(eS.out w6 (HQ.on HB.out)).1⟩;clear gy
   go_upto_region 27 with fail
   go_loopw [11,16] (λav cv wr=>∃c:Nat,c<=n0/\cv= .int .i64 c/\Hid (Below w6.heap.size w6 wr)/\Hid (Pi Qp 26 w6.heap.size S wr av (Rc c))) (λ_ cv _=>n0-(intOf cv).toNat)
   case atStart=>exact ⟨0,by omega,by go_num,Pb _ _,Pi.nil _ _ _ _ _⟩
   obtain ⟨c,hc,rfl,HT,HA⟩:=hrel;have hq:=H6.1.on HT.out;by_cases kp:c<n0
   ·have cT:0<rows.length:=by
     cases rows with
     | nil=>have:=lH.out;simp at this;omega
     | cons a r=>simp
    obtain ⟨g,o,ad,cap,rfl,fF,au⟩:=vV.out 0 cT;obtain ⟨q,_⟩:=au wr hq;have hh:rows[0].length=n0:=by
     rw [<-lH.out];cases rows with
     | nil=>simp at cT
     | cons a r=>rfl
    rw [hh,TO] at q;have i2:(0:Int)<(rows.length:Int):=by omega
    have i3:(c:Int)<(n0:Int):=by omega
    have ae6:n0<=16:=AZ.out;have oh:Hid (Pv (wr.alloc (.cells #[.int .i64 c] 3)) (RL S w6.heap.size (wr.alloc (.cells #[.int .i64 c] 3)) u11) (.slice (some ⟨wr.heap.size,0,none⟩) 1 1) [c]):= .inr ⟨wr.heap.size,0,1,rfl,by simp,by simp,λj hj=>⟨.inr ⟨HT.size,by simp,λe=>by have:=(HA.lt _ e).2;omega⟩,by
     have hj:j=0:=by simpa using hj
     subst hj;exact P0 (PF wr _) rfl⟩⟩
    have pF:Hid ((Rc c).length<=16):=by
     show _<=_;rw [ZV];have:=AZ.out;omega
    have aw4:Hid (Below wr.heap.size wr (wr.alloc (.cells #[.int .i64 c] 3))):=(Pb _ _).alloc (P6 _) _;clear au hh hq
    go_wp2_with (at_builtin;refine ce1 (E:=Qp) (v:=u11) (w1:=wr) (w2:=wr.alloc (.cells #[.int .i64 c] 3)) (cs:=[.slice (some ⟨wr.heap.size,0,none⟩) 1 1]) (p:=[c]) Tryz.ty58 rfl _ _ rfl rfl HA.out H6.2.2 HT.size aw4.out (cap:=1) (wr.heap.size+1) rfl (by simp) ⟨_,_,rfl,oh.out⟩ (P6 _) (by have:=pF.out;omega) ?_;intro v5 w5 O5 B5 _)
    exact ⟨⟨c+1,kp,by go_num,HT.out.trans B5,by show Pi _ _ _ _ _ _ _;rw [bu1];exact O5⟩,by simp [intOf];omega⟩
   obtain rfl:c=n0:=by omega
   have CT:=VL (w:=wr) (S:=λy=>S y\/(w2.heap.size<=y/\y<wr.heap.size)) (fa:=fa) (fc:=fc) (rv:=u10) (av:=u11) HF.out cN.out.1 br.out.2.2.2.1 cX.out.1 cX.out.2 kr.out br.out.2.2.2.2.2 (λy hy=>hy.elim (λh=>(eS.out wr hq).1 y h) λh=>h.2) ((br.out.2.1.on (eS.out wr hq).2).up λ_ h=> .inl h) ((Pi.rowE (HO.out.on (eS.out w2 HQ.out).1 H6.out.2.1 HT.out)).on (OZ.refl _ _) (OZ.refl _ _) (λ_ h=> .inr h) λ_ h=>h) (by rw [lH.out];exact (Pi.rowE HA.out).on (OZ.refl _ _) (OZ.refl _ _) (λ_ h=> .inr ⟨by have:=H6.out.2.1;omega,h.2⟩) λ_ h=>h.imp_right λh=>⟨by have:=H6.out.2.1;omega,h.2⟩);have Ca:=P4 hq;clear hq HO HA HB HT;have Je:=P4 (WD rows);generalize U1 rows.flatten=MX at *
   by_cases cT:0<rows.length
   all_goals
    first
    | (
     obtain ⟨g,o,ad,cap,rfl,fF,au⟩:=vV.out 0 cT;obtain ⟨q,_⟩:=au wr Ca.out;have hh:rows[0].length=c:=by
      rw [<-lH.out];cases rows with
      | nil=>simp at cT
      | cons a r=>rfl
     rw [hh,TO] at q;have i2:(0:Int)<(rows.length:Int):=by omega
     clear au hh
     go_upto_region 31 with (first | (go_at_call 23;(with_reducible refine Pe CT ?_);rintro e' w7 ⟨ta,tb,pa,pl,pc,ca,cl,cc,ea,el,ec,lv,rfl,hb7,HT7⟩))
     clear q i2;generalize (some ⟨g,o,none⟩:Option Addr)=fP at *)
    | (
     have i2:¬(0:Int)<(rows.length:Int):=by omega
     go_upto_region 31 with (first | (go_at_call 23;(with_reducible refine Pe CT ?_);rintro e' w7 ⟨ta,tb,pa,pl,pc,ca,cl,cc,ea,el,ec,lv,rfl,hb7,HT7⟩))
     clear i2)
   all_goals
    obtain ⟨W8,qf⟩:∃W8,W8=w7.alloc (.cells #[.int .i64 ta,.int .i64 tb,.slice pa pl pc,.slice ca cl cc,.slice ea el ec] 30):=⟨_,rfl⟩;rw [<-qf];have hb8:Below w7.heap.size w7 W8:=by rw [qf];exact (Pb _ _).alloc (P6 _) _
    have wL:W8.heap[w7.heap.size]? =some (.cells #[.int .i64 ta,.int .i64 tb,.slice pa pl pc,.slice ca cl cc,.slice ea el ec] 30 (0,0)):=by rw [qf];exact PF w7 _
    have ue:Cq w W8:=(Ca.on hb7).on hb8;have dX:Hid (Cq w W8/\W8.heap[w7.heap.size]? =some (.cells #[.int .i64 ta,.int .i64 tb,.slice pa pl pc,.slice ca cl cc,.slice ea el ec] 30 (0,0))/\w.heap.size+2<=w7.heap.size):=⟨ue,wL,(Ca.on hb7).lt⟩;by_cases jz:lv<0
    ·have cE:Hid (RR F fs rows 4 none):= .inr ⟨lm.out,.inr ⟨k,cN.1,.inr ⟨kr.out,.inl ⟨HT7.1 jz,rfl,rfl⟩⟩⟩⟩;have HQ:=P4 ue;clear dX HT7 hb7 hb8 wL ue qf CT 
     go_upto_region 32 with fail
     obtain ⟨⟨g0,g1,g2,g3,g4⟩,⟨h0,h1,h2⟩,zt,zc⟩:=HQ.cells;have z0:=zt 0;have z1:=zt 1;have z2:=zt 2;have z3:=zt 3;have z4:=zt 4;have y0:=zc 0;have y1:=zc 1;have y2:=zc 2;obtain ⟨U,hU,aN,bG,aZ,_,_⟩:=HQ.store (.int .i64 0) (.int .i64 0) (.slice none 0 0) (.slice none 0 0) (.slice none 0 0) (.bool false) (.slice none 0 0) (.slice none 0 0);unfold Tx at hU;have eK:=P4 aZ;clear zt zc aZ;go_wp2;rw [<-hU];have u0:=P0 (i:=0) aN rfl;have u1:=P0 (i:=1) aN rfl;have u2:=P0 (i:=2) aN rfl;have u3:=P0 (i:=3) aN rfl;have u4:=P0 (i:=4) aN rfl;have v0:=P0 (i:=0) bG rfl;have v1:=P0 (i:=1) bG rfl;have v2:=P0 (i:=2) bG rfl;refine Qv (v:= .tuple #[.agg Rv,.agg RQ,.int .i64 4]) (by simp [results,Tryz.results6,go_sem,u0,u1,u2,u3,u4,v0,v1,v2,Rv,RQ]) rfl ?_;exact ⟨eK.out,.inl ⟨4,cE.out,by decide,rfl⟩⟩
    obtain ⟨Jf,mh⟩:=HT7.2 (by omega);have oU:=P4 Jf;have jn:Hid (PL W8 (λy=>S y\/(w.heap.size+2<=y/\y<W8.heap.size)) F (.agg #[.int .i64 ta,.int .i64 tb,.slice pa pl pc,.slice ca cl cc,.slice ea el ec]) (Pj F k fs rows).1):=PL.below (λy hy=>hb8.block y hy.2) (λy hy=> .inr ⟨by have:=Ca.lt;omega,by have:=hb8.size;omega⟩) F _ _ mh;have iF:Hid (Sm F (Pj F k fs rows).1/\(∀r∈Py F (Pj F k fs rows).1,r<rows.length)/\SD k fs (rows.headD []).length F (Pj F k fs rows).1 []):=by
     have cw:∀c∈QA [] (rows.headD []).length (Qy rows),Good k 0 c:=λc hc=>Z6 cX.1 hc (kr.2 c hc _) 0;refine ⟨NX k fs F 0 _ _ λc hc=>(cw c hc).len,λr hr=> ?_,bn1 cN.2 F 0 _ _ _ 0 cw⟩;have:=K4 k fs F 0 _ _ r hr
     rwa [T2] at this
    have iH:Hid (∀V,Below W8.heap.size W8 V->(∀y,(S y\/(w.heap.size+2<=y/\y<W8.heap.size))->y<V.heap.size)/\OZ (λy=>S y\/(w.heap.size+2<=y/\y<W8.heap.size)) W8 V):=λV hV=>by
     have h8:∀y,(S y\/(w.heap.size+2<=y/\y<W8.heap.size))->y<W8.heap.size:=λy hy=>hy.elim (λh=>(eS.out W8 dX.1).1 y h) λh=>h.2;exact ⟨λy hy=>PQ (h8 y hy) hV.size,OZ.of hV h8⟩
    have CE:=Ah F (by have:=HF.out;omega) (Pj F k fs rows).1 iF.1 W8 (λy=>S y\/(w.heap.size+2<=y/\y<W8.heap.size)) _ (iH.out W8 (Pb _ _)).1 jn.out;have uW:Hid (∀V,Below W8.heap.size W8 V->Calls Tryz.prog 25 #[.slice fa fs.length fc,.agg #[.int .i64 ta,.int .i64 tb,.slice pa pl pc,.slice ca cl cc,.slice ea el ec],.slice fP rows.length ci] V (MD F (Rq F k fs F (Pj F k fs rows).1 rows) (λy=>S y\/(w.heap.size+2<=y/\y<W8.heap.size)) V)):=λV hV=>by
     obtain ⟨v1,v2⟩:=iH.out V hV;have Jg:=dX.1.on hV;exact X3 cN.1 br.2.2.2.1 (by have:=HF.out;omega) _ rows iF.1 iF.2.1 iF.2.2 fa fc _ _ v1 ((br.2.1.on (eS.out V Jg).2).up λ_ h=> .inl h) (PL.below v2 (λ_ h=>h) F _ _ jn.out) ((br.2.2.1.on (eS.out V Jg).2).up λ_ h=> .inl h) cX.1 cX.2
    have HX:Hid (∀V,Below W8.heap.size W8 V->V.cell? ⟨w7.heap.size,0,none⟩=some (.int .i64 ta)/\V.cell? ⟨w7.heap.size,1,none⟩=some (.int .i64 tb)/\V.cell? ⟨w7.heap.size,2,none⟩=some (.slice pa pl pc)/\V.cell? ⟨w7.heap.size,3,none⟩=some (.slice ca cl cc)/\V.cell? ⟨w7.heap.size,4,none⟩=some (.slice ea el ec)):=λV hV=>by
     have e:=(hV.block _ (PV dX.2.1)).trans dX.2.1;exact ⟨P0 e rfl,P0 e rfl,P0 e rfl,P0 e rfl,P0 e rfl⟩
    obtain ⟨x0,x1,x2,x3,x4⟩:=HX.out W8 (Pb _ _);have lq:Hid (∀V,Below W8.heap.size W8 V->Cq w V):=λV hV=>dX.1.on hV;clear Jf mh hb7 hb8 wL ue qf CT HT7 ;generalize yZ:w7.heap.size=Tb at *
    clear yZ;by_cases fB:1000<Pa F (Pj F k fs rows).1
    ·have cE:Hid (RR F fs rows 3 none):= .inr ⟨lm.out,.inr ⟨k,cN.1,.inr ⟨kr.out,.inr ⟨oU.out,.inl ⟨.inl fB,rfl,rfl⟩⟩⟩⟩⟩;have i6:(1000:Int)<(Pa F (Pj F k fs rows).1:Int):=by omega
     clear jn iF uW fB;generalize Pa F (Pj F k fs rows).1=rz at *
     go_upto_region 35 with (first | (go_at_call 24;(with_reducible refine Pe CE ?_);rintro e' w9 ⟨rfl,hb9⟩))
     have HQ:=P4 (lq.out w9 hb9);clear hb9 x0 x1 x2 x3 x4 CE lq;obtain ⟨⟨g0,g1,g2,g3,g4⟩,⟨h0,h1,h2⟩,zt,zc⟩:=HQ.cells;have z0:=zt 0;have z1:=zt 1;have z2:=zt 2;have z3:=zt 3;have z4:=zt 4;have y0:=zc 0;have y1:=zc 1;have y2:=zc 2;obtain ⟨U,hU,aN,bG,aZ,_,_⟩:=HQ.store (.int .i64 0) (.int .i64 0) (.slice none 0 0) (.slice none 0 0) (.slice none 0 0) (.bool false) (.slice none 0 0) (.slice none 0 0);unfold Tx at hU;have eK:=P4 aZ;clear zt zc aZ;go_wp2;rw [<-hU];have u0:=P0 (i:=0) aN rfl;have u1:=P0 (i:=1) aN rfl;have u2:=P0 (i:=2) aN rfl;have u3:=P0 (i:=3) aN rfl;have u4:=P0 (i:=4) aN rfl;have v0:=P0 (i:=0) bG rfl;have v1:=P0 (i:=1) bG rfl;have v2:=P0 (i:=2) bG rfl;refine Qv (v:= .tuple #[.agg Rv,.agg RQ,.int .i64 3]) (by simp [results,Tryz.results6,go_sem,u0,u1,u2,u3,u4,v0,v1,v2,Rv,RQ]) rfl ?_;exact ⟨eK.out,.inl ⟨3,cE.out,by decide,rfl⟩⟩
    have oh:Hid (Pa F (Pj F k fs rows).1<=1000):=by show _<=_;omega
    have i6:¬(1000:Int)<(Pa F (Pj F k fs rows).1:Int):=by omega
    by_cases lz:1000<MX
    ·have cE:Hid (RR F fs rows 3 none):= .inr ⟨lm.out,.inr ⟨k,cN.out.1,.inr ⟨kr.out,.inr ⟨oU.out,.inl ⟨.inr (by rw [Je.out];exact T7 lz),rfl,rfl⟩⟩⟩⟩⟩;have i7:(1000:Int)<(MX:Int):=by omega
     clear jn iF uW fB lz oh;generalize Pa F (Pj F k fs rows).1=rz at *
     go_upto_region 35 with (first | (go_at_call 24;(with_reducible refine Pe CE ?_);rintro e' w9 ⟨rfl,hb9⟩))
     have HQ:=P4 (lq.out w9 hb9);clear hb9 x0 x1 x2 x3 x4 CE lq;obtain ⟨⟨g0,g1,g2,g3,g4⟩,⟨h0,h1,h2⟩,zt,zc⟩:=HQ.cells;have z0:=zt 0;have z1:=zt 1;have z2:=zt 2;have z3:=zt 3;have z4:=zt 4;have y0:=zc 0;have y1:=zc 1;have y2:=zc 2;obtain ⟨U,hU,aN,bG,aZ,_,_⟩:=HQ.store (.int .i64 0) (.int .i64 0) (.slice none 0 0) (.slice none 0 0) (.slice none 0 0) (.bool false) (.slice none 0 0) (.slice none 0 0);unfold Tx at hU;have eK:=P4 aZ;clear zt zc aZ;go_wp2;rw [<-hU];have u0:=P0 (i:=0) aN rfl;have u1:=P0 (i:=1) aN rfl;have u2:=P0 (i:=2) aN rfl;have u3:=P0 (i:=3) aN rfl;have u4:=P0 (i:=4) aN rfl;have v0:=P0 (i:=0) bG rfl;have v1:=P0 (i:=1) bG rfl;have v2:=P0 (i:=2) bG rfl;refine Qv (v:= .tuple #[.agg Rv,.agg RQ,.int .i64 3]) (by simp [results,Tryz.results6,go_sem,u0,u1,u2,u3,u4,v0,v1,v2,Rv,RQ]) rfl ?_;exact ⟨eK.out,.inl ⟨3,cE.out,by decide,rfl⟩⟩
    have cE:Hid (RR F fs rows 0 (some ((Pj F k fs rows).1,Rq F k fs F (Pj F k fs rows).1 rows))):= .inr ⟨lm.out,.inr ⟨k,cN.out.1,.inr ⟨kr.out,.inr ⟨oU.out,.inr ⟨⟨oh.out,by rw [Je.out];exact Ti lz⟩,rfl,rfl⟩⟩⟩⟩⟩;have i7:¬(1000:Int)<(MX:Int):=by omega
    clear fB lz oh iF;generalize Pa F (Pj F k fs rows).1=rz at *
    go_upto_region 37 with (first | (go_at_call 24;(with_reducible refine Pe CE ?_);rintro e' w9 ⟨rfl,hb9⟩;have CV:=uW.out w9 hb9;obtain ⟨a0,a1,a2,a3,a4⟩:=HX.out w9 hb9) | (go_at_call 25;(with_reducible refine Pe CV ?_);rintro e' w11 ⟨hb11,ad1,cp1,ad2,cp2,rfl,hn11,hp11⟩))
    obtain ⟨cV,rH⟩:∃cV,cV=w11.alloc (.cells #[.bool (Rq F k fs F (Pj F k fs rows).1 rows).1,.slice ad1 (Rq F k fs F (Pj F k fs rows).1 rows).2.1.length cp1,.slice ad2 (Rq F k fs F (Pj F k fs rows).1 rows).2.2.length cp2] 33):=⟨_,rfl⟩;rw [<-rH];have hb12:Below w11.heap.size w11 cV:=by rw [rH];exact (Pb _ _).alloc (P6 _) _
    have vo:cV.heap[w11.heap.size]? =some (.cells #[.bool (Rq F k fs F (Pj F k fs rows).1 rows).1,.slice ad1 (Rq F k fs F (Pj F k fs rows).1 rows).2.1.length cp1,.slice ad2 (Rq F k fs F (Pj F k fs rows).1 rows).2.2.length cp2] 33 (0,0)):=by rw [rH];exact PF w11 _
    have ph:Below W8.heap.size W8 w11:=hb9.trans (hb11.mono hb9.size);have iq:Below W8.heap.size W8 cV:=ph.trans (hb12.mono ph.size);have A':Cq w cV.drew:=(lq.out cV iq).on ((Pb _ _).drew);have bx7:cV.drew.heap.size=cV.heap.size:=rfl;have bc4:=dX.1.lt;have br3:=hb9.size;have cg7:=hb11.size;have bo7:=hb12.size;have tC:Hid (PL cV.drew (λy=>S y\/(w.heap.size+2<=y/\y<cV.heap.size)) F (.agg #[.int .i64 ta,.int .i64 tb,.slice pa pl pc,.slice ca cl cc,.slice ea el ec]) (Pj F k fs rows).1/\Pv cV.drew (λy=>S y\/(w.heap.size+2<=y/\y<cV.heap.size)) (.slice ad1 (Rq F k fs F (Pj F k fs rows).1 rows).2.1.length cp1) (Rq F k fs F (Pj F k fs rows).1 rows).2.1/\Pl cV.drew (λy=>S y\/(w.heap.size+2<=y/\y<cV.heap.size)) (.slice ad2 (Rq F k fs F (Pj F k fs rows).1 rows).2.2.length cp2) ((Rq F k fs F (Pj F k fs rows).1 rows).2.2.map λu=>(⟨F+1,u⟩:Pt))):=by
     have iB:∀y,((S y\/(w.heap.size+2<=y/\y<W8.heap.size))\/(w9.heap.size<=y/\y<w11.heap.size))->y<w11.heap.size:=λy hy=>by
      rcases hy with (hy | hy) | hy
      ·have:=(eS.out W8 dX.1).1 y hy;omega
      ·omega
      exact hy.2
     have fE:∀y,((S y\/(w.heap.size+2<=y/\y<W8.heap.size))\/(w9.heap.size<=y/\y<w11.heap.size))->(S y\/(w.heap.size+2<=y/\y<cV.heap.size)):=λy hy=>by
      rcases hy with (hy | hy) | hy
      ·exact .inl hy
      ·exact .inr ⟨hy.1,by omega⟩
      exact .inr ⟨by omega,by omega⟩
     refine ⟨PL.below (iH.out cV.drew iq.drew).2 (λy hy=>fE y (.inl hy)) F _ _ jn.out,(hn11.on λy hy=> ?_).up fE,(hp11.on λy hy=> ?_).up fE⟩
     ·exact hb12.block y (iB y hy)
     exact hb12.block y (iB y hy)
    have rA:Hid (∀V:World,(∀y,w.heap.size+2<=y->y<cV.heap.size->V.heap[y]? =cV.heap[y]?)->(V.cell? ⟨Tb,0,none⟩=some (.int .i64 ta)/\V.cell? ⟨Tb,1,none⟩=some (.int .i64 tb)/\V.cell? ⟨Tb,2,none⟩=some (.slice pa pl pc)/\V.cell? ⟨Tb,3,none⟩=some (.slice ca cl cc)/\V.cell? ⟨Tb,4,none⟩=some (.slice ea el ec))/\V.cell? ⟨w11.heap.size,0,none⟩=some (.bool (Rq F k fs F (Pj F k fs rows).1 rows).1)/\V.cell? ⟨w11.heap.size,1,none⟩=some (.slice ad1 (Rq F k fs F (Pj F k fs rows).1 rows).2.1.length cp1)/\V.cell? ⟨w11.heap.size,2,none⟩=some (.slice ad2 (Rq F k fs F (Pj F k fs rows).1 rows).2.2.length cp2)):=λV hV=>by
     have hlt:=PV dX.2.1;have h1:=(hV Tb dX.2.2 (by omega)).trans ((iq.block Tb hlt).trans dX.2.1);have h2:=(hV w11.heap.size (by omega) (PV vo)).trans vo;exact ⟨⟨P0 h1 rfl,P0 h1 rfl,P0 h1 rfl,P0 h1 rfl,P0 h1 rfl⟩,P0 h2 rfl,P0 h2 rfl,P0 h2 rfl⟩
    have ca2:=rA.out cV.drew (λy _ _=>rfl);obtain ⟨⟨g0,g1,g2,g3,g4⟩,⟨h0,h1,h2⟩,zt,zc⟩:=A'.cells;have z0:=zt 0;have z1:=zt 1;have z2:=zt 2;have z3:=zt 3;have z4:=zt 4;have y0:=zc 0;have y1:=zc 1;have y2:=zc 2;obtain ⟨⟨ar4,ap3,ar6,AI,at4⟩,⟨ad3,mG,sJ⟩,wR,Cc⟩:=(lq.out cV iq).cells;have ag4:=wR 0;have ao3:=wR 1;have au7:=wR 2;have Eb:=wR 3;have H8:=wR 4;have au3:=Cc 0;have ao5:=Cc 1;have ak4:=Cc 2;clear wR Cc;generalize Rq F k fs F (Pj F k fs rows).1 rows=fR at *
    obtain ⟨U,hU,aN,bG,aZ,bj,aP⟩:=(lq.out cV iq).store (.int .i64 ta) (.int .i64 tb) (.slice pa pl pc) (.slice ca cl cc) (.slice ea el ec) (.bool fR.1) (.slice ad1 fR.2.1.length cp1) (.slice ad2 fR.2.2.length cp2);unfold Tx at hU;have kH:Hid (Zh F fs rows S w (.returned (.tuple #[.agg #[.int .i64 ta,.int .i64 tb,.slice pa pl pc,.slice ca cl cc,.slice ea el ec],.agg #[.bool fR.1,.slice ad1 fR.2.1.length cp1,.slice ad2 fR.2.2.length cp2],.int .i64 0])) U):=by
     have ir:∀y,(S y\/(w.heap.size+2<=y/\y<cV.heap.size))->U.heap[y]? =cV.drew.heap[y]? :=λy hy=>by
      rcases hy with hy | hy
      ·have:=br.1 y hy;exact aP y (by omega) (by omega)
      exact aP y (by omega) (by omega)
     have fE:∀y,(S y\/(w.heap.size+2<=y/\y<cV.heap.size))->(S y\/(w.heap.size<=y/\y<U.heap.size)):=λy hy=>hy.imp_right λh=>⟨by omega,by omega⟩;exact ⟨aZ,.inr ⟨_,_,_,ad1,cp1,ad2,cp2,cE.out,rfl,PL.below ir fE F _ _ tC.1,(tC.2.1.on ir).up fE,(tC.2.2.on ir).up fE⟩⟩
    have uX:Hid (∀a0 a1 a2 a3 a4:Value,((((((((cV.setCell ⟨w.heap.size,0,none⟩ a0).setCell ⟨w.heap.size,1,none⟩ a1).setCell ⟨w.heap.size,2,none⟩ a2).setCell ⟨w.heap.size,3,none⟩ a3).setCell ⟨w.heap.size,4,none⟩ a4).drew).cell? ⟨Tb,0,none⟩=some (.int .i64 ta)/\((((((cV.setCell ⟨w.heap.size,0,none⟩ a0).setCell ⟨w.heap.size,1,none⟩ a1).setCell ⟨w.heap.size,2,none⟩ a2).setCell ⟨w.heap.size,3,none⟩ a3).setCell ⟨w.heap.size,4,none⟩ a4).drew).cell? ⟨Tb,1,none⟩=some (.int .i64 tb)/\((((((cV.setCell ⟨w.heap.size,0,none⟩ a0).setCell ⟨w.heap.size,1,none⟩ a1).setCell ⟨w.heap.size,2,none⟩ a2).setCell ⟨w.heap.size,3,none⟩ a3).setCell ⟨w.heap.size,4,none⟩ a4).drew).cell? ⟨Tb,2,none⟩=some (.slice pa pl pc)/\((((((cV.setCell ⟨w.heap.size,0,none⟩ a0).setCell ⟨w.heap.size,1,none⟩ a1).setCell ⟨w.heap.size,2,none⟩ a2).setCell ⟨w.heap.size,3,none⟩ a3).setCell ⟨w.heap.size,4,none⟩ a4).drew).cell? ⟨Tb,3,none⟩=some (.slice ca cl cc)/\((((((cV.setCell ⟨w.heap.size,0,none⟩ a0).setCell ⟨w.heap.size,1,none⟩ a1).setCell ⟨w.heap.size,2,none⟩ a2).setCell ⟨w.heap.size,3,none⟩ a3).setCell ⟨w.heap.size,4,none⟩ a4).drew).cell? ⟨Tb,4,none⟩=some (.slice ea el ec))/\((((((cV.setCell ⟨w.heap.size,0,none⟩ a0).setCell ⟨w.heap.size,1,none⟩ a1).setCell ⟨w.heap.size,2,none⟩ a2).setCell ⟨w.heap.size,3,none⟩ a3).setCell ⟨w.heap.size,4,none⟩ a4).drew).cell? ⟨w11.heap.size,0,none⟩=some (.bool fR.1)/\((((((cV.setCell ⟨w.heap.size,0,none⟩ a0).setCell ⟨w.heap.size,1,none⟩ a1).setCell ⟨w.heap.size,2,none⟩ a2).setCell ⟨w.heap.size,3,none⟩ a3).setCell ⟨w.heap.size,4,none⟩ a4).drew).cell? ⟨w11.heap.size,1,none⟩=some (.slice ad1 fR.2.1.length cp1)/\((((((cV.setCell ⟨w.heap.size,0,none⟩ a0).setCell ⟨w.heap.size,1,none⟩ a1).setCell ⟨w.heap.size,2,none⟩ a2).setCell ⟨w.heap.size,3,none⟩ a3).setCell ⟨w.heap.size,4,none⟩ a4).drew).cell? ⟨w11.heap.size,2,none⟩=some (.slice ad2 fR.2.2.length cp2))):=λa0 a1 a2 a3 a4=>rA.out _ λy h1 h2=>by
     rw [M0];rw [PX _ _ _ _ (by show y≠w.heap.size;omega),PX _ _ _ _ (by show y≠w.heap.size;omega),PX _ _ _ _ (by show y≠w.heap.size;omega),PX _ _ _ _ (by show y≠w.heap.size;omega),PX _ _ _ _ (by show y≠w.heap.size;omega)]
    have uY:Hid (∀a0 a1 a2 a3 a4 b0 b1 b2:Value,(((((((((((cV.setCell ⟨w.heap.size,0,none⟩ a0).setCell ⟨w.heap.size,1,none⟩ a1).setCell ⟨w.heap.size,2,none⟩ a2).setCell ⟨w.heap.size,3,none⟩ a3).setCell ⟨w.heap.size,4,none⟩ a4).setCell ⟨w.heap.size+1,0,none⟩ b0).setCell ⟨w.heap.size+1,1,none⟩ b1).setCell ⟨w.heap.size+1,2,none⟩ b2).drew).cell? ⟨Tb,0,none⟩=some (.int .i64 ta)/\(((((((((cV.setCell ⟨w.heap.size,0,none⟩ a0).setCell ⟨w.heap.size,1,none⟩ a1).setCell ⟨w.heap.size,2,none⟩ a2).setCell ⟨w.heap.size,3,none⟩ a3).setCell ⟨w.heap.size,4,none⟩ a4).setCell ⟨w.heap.size+1,0,none⟩ b0).setCell ⟨w.heap.size+1,1,none⟩ b1).setCell ⟨w.heap.size+1,2,none⟩ b2).drew).cell? ⟨Tb,1,none⟩=some (.int .i64 tb)/\(((((((((cV.setCell ⟨w.heap.size,0,none⟩ a0).setCell ⟨w.heap.size,1,none⟩ a1).setCell ⟨w.heap.size,2,none⟩ a2).setCell ⟨w.heap.size,3,none⟩ a3).setCell ⟨w.heap.size,4,none⟩ a4).setCell ⟨w.heap.size+1,0,none⟩ b0).setCell ⟨w.heap.size+1,1,none⟩ b1).setCell ⟨w.heap.size+1,2,none⟩ b2).drew).cell? ⟨Tb,2,none⟩=some (.slice pa pl pc)/\(((((((((cV.setCell ⟨w.heap.size,0,none⟩ a0).setCell ⟨w.heap.size,1,none⟩ a1).setCell ⟨w.heap.size,2,none⟩ a2).setCell ⟨w.heap.size,3,none⟩ a3).setCell ⟨w.heap.size,4,none⟩ a4).setCell ⟨w.heap.size+1,0,none⟩ b0).setCell ⟨w.heap.size+1,1,none⟩ b1).setCell ⟨w.heap.size+1,2,none⟩ b2).drew).cell? ⟨Tb,3,none⟩=some (.slice ca cl cc)/\(((((((((cV.setCell ⟨w.heap.size,0,none⟩ a0).setCell ⟨w.heap.size,1,none⟩ a1).setCell ⟨w.heap.size,2,none⟩ a2).setCell ⟨w.heap.size,3,none⟩ a3).setCell ⟨w.heap.size,4,none⟩ a4).setCell ⟨w.heap.size+1,0,none⟩ b0).setCell ⟨w.heap.size+1,1,none⟩ b1).setCell ⟨w.heap.size+1,2,none⟩ b2).drew).cell? ⟨Tb,4,none⟩=some (.slice ea el ec))/\(((((((((cV.setCell ⟨w.heap.size,0,none⟩ a0).setCell ⟨w.heap.size,1,none⟩ a1).setCell ⟨w.heap.size,2,none⟩ a2).setCell ⟨w.heap.size,3,none⟩ a3).setCell ⟨w.heap.size,4,none⟩ a4).setCell ⟨w.heap.size+1,0,none⟩ b0).setCell ⟨w.heap.size+1,1,none⟩ b1).setCell ⟨w.heap.size+1,2,none⟩ b2).drew).cell? ⟨w11.heap.size,0,none⟩=some (.bool fR.1)/\(((((((((cV.setCell ⟨w.heap.size,0,none⟩ a0).setCell ⟨w.heap.size,1,none⟩ a1).setCell ⟨w.heap.size,2,none⟩ a2).setCell ⟨w.heap.size,3,none⟩ a3).setCell ⟨w.heap.size,4,none⟩ a4).setCell ⟨w.heap.size+1,0,none⟩ b0).setCell ⟨w.heap.size+1,1,none⟩ b1).setCell ⟨w.heap.size+1,2,none⟩ b2).drew).cell? ⟨w11.heap.size,1,none⟩=some (.slice ad1 fR.2.1.length cp1)/\(((((((((cV.setCell ⟨w.heap.size,0,none⟩ a0).setCell ⟨w.heap.size,1,none⟩ a1).setCell ⟨w.heap.size,2,none⟩ a2).setCell ⟨w.heap.size,3,none⟩ a3).setCell ⟨w.heap.size,4,none⟩ a4).setCell ⟨w.heap.size+1,0,none⟩ b0).setCell ⟨w.heap.size+1,1,none⟩ b1).setCell ⟨w.heap.size+1,2,none⟩ b2).drew).cell? ⟨w11.heap.size,2,none⟩=some (.slice ad2 fR.2.2.length cp2))):=λa0 a1 a2 a3 a4 b0 b1 b2=>rA.out _ λy h1 h2=>by
     rw [M0];rw [PX _ _ _ _ (by show y≠w.heap.size+1;omega),PX _ _ _ _ (by show y≠w.heap.size+1;omega),PX _ _ _ _ (by show y≠w.heap.size+1;omega),PX _ _ _ _ (by show y≠w.heap.size;omega),PX _ _ _ _ (by show y≠w.heap.size;omega),PX _ _ _ _ (by show y≠w.heap.size;omega),PX _ _ _ _ (by show y≠w.heap.size;omega),PX _ _ _ _ (by show y≠w.heap.size;omega)]
    generalize be4:w11.heap.size=Cb at *
    clear be4 hb9 hb11 hn11 hp11 hb12 vo ph iq A' bx7 bc4 br3 cg7 bo7 tC rA zt zc aZ bj aP CV uW cE jn iH dX lq CE oU x0 x1 x2 x3 x4 a0 a1 a2 a3 a4 rH HX
    go_region_held3 (λw'=>((w'.cell? ⟨Tb,0,none⟩=some (.int .i64 ta)/\w'.cell? ⟨Tb,1,none⟩=some (.int .i64 tb)/\w'.cell? ⟨Tb,2,none⟩=some (.slice pa pl pc)/\w'.cell? ⟨Tb,3,none⟩=some (.slice ca cl cc)/\w'.cell? ⟨Tb,4,none⟩=some (.slice ea el ec))/\w'.cell? ⟨Cb,0,none⟩=some (.bool fR.1)/\w'.cell? ⟨Cb,1,none⟩=some (.slice ad1 fR.2.1.length cp1)/\w'.cell? ⟨Cb,2,none⟩=some (.slice ad2 fR.2.2.length cp2)))
     (first | (with_reducible exact ca2) | (with_reducible exact uX.out _ _ _ _ _) | (with_reducible exact uY.out _ _ _ _ _ _ _ _))
     (fail)
    go_wp2;rw [<-hU];have u0:=P0 (i:=0) aN rfl;have u1:=P0 (i:=1) aN rfl;have u2:=P0 (i:=2) aN rfl;have u3:=P0 (i:=3) aN rfl;have u4:=P0 (i:=4) aN rfl;have v0:=P0 (i:=0) bG rfl;have v1:=P0 (i:=1) bG rfl;have v2:=P0 (i:=2) bG rfl;refine Qv (v:= .tuple #[.agg #[.int .i64 ta,.int .i64 tb,.slice pa pl pc,.slice ca cl cc,.slice ea el ec],.agg #[.bool fR.1,.slice ad1 fR.2.1.length cp1,.slice ad2 fR.2.2.length cp2],.int .i64 0]) (by simp [results,Tryz.results6,go_sem,u0,u1,u2,u3,u4,v0,v1,v2]) rfl ?_
    first | exact kH.out | exact kH.drew
end
