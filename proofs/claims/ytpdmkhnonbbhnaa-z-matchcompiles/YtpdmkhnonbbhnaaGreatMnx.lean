import Derived.Test.YtpdmkhnonbbhnaaGreatMkx
namespace Go.Proofs.YtpdmkhnonbbhnaaGreat
open Go.RowKit Go.Maps
set_option maxHeartbeats 8000000
set_option maxRecDepth 10000
section
variable {w:World}{c0 c1 c2 c3 c4:Value}{t:TypeId}{n:Nat}
structure BrIn (k:Kn)(fs:List Pu)(fa:Option Addr)(fc b m:Nat)(f n:Nat)(cols:List PM)(rows:List Nat)(cv rv:Value)(S:Nat->Prop)(w:World):Prop where
 fuel:5001<=n+f/\f<=5000/\n<=5000
 blk:w.heap[m]? =some (.cells #[.slice fa fs.length fc,.map (some b),.int .i64 n] 76 (0,0))
 set:∀x,S x->x<w.heap.size/\x≠m
 map:PP w b k
 mapne:b≠m
 fams:PH w S (.slice fa fs.length fc) fs
 hcols:Qw w S cv cols
 hrows:Pv w S rv rows
 good:∀c∈cols,Good k (5001-f) c
 num:cols.length<=16+8*(5000-f)
 rise:rows.Pairwise (· < ·)
 low:∀r∈rows,r<200
theorem Ud {R:Nat}(h:w.heap[R]? =some (.cells #[c0,c1,c2,c3,c4] t (0,0)))(v0 v1 v2 v3 v4:Value):
  ∃U,U=((((w.setCell ⟨R,0,none⟩ v0).setCell ⟨R,1,none⟩ v1).setCell ⟨R,2,none⟩ v2).setCell ⟨R,3,none⟩ v3).setCell ⟨R,4,none⟩ v4/\U.heap[R]? =some (.cells #[v0,v1,v2,v3,v4] t (0,0))/\U.heap.size=w.heap.size/\(∀x,x≠R->U.heap[x]? =w.heap[x]?)/\U.os=w.os/\U.tape=w.tape/\U.output=w.output:=by
 have a0:=Q5 (i:=0) (v:=v0) h;have a1:=Q5 (i:=1) (v:=v1) a0;have a2:=Q5 (i:=2) (v:=v2) a1;have a3:=Q5 (i:=3) (v:=v3) a2;have a4:=Q5 (i:=4) (v:=v4) a3;have hk:=(((((Kx.refl R w).setCell 0 v0).setCell 1 v1).setCell 2 v2).setCell 3 v3).setCell 4 v4;have e:((((#[c0,c1,c2,c3,c4].setIfInBounds 0 v0).setIfInBounds 1 v1).setIfInBounds 2 v2).setIfInBounds 3 v3).setIfInBounds 4 v4= #[v0,v1,v2,v3,v4]:=rfl;rw [e] at a4;refine ⟨_,rfl,a4,by simp [World.setCell],λx hx=> ?_,hk.os,hk.tape,hk.output⟩;rw [PX _ _ _ _ hx,PX _ _ _ _ hx,PX _ _ _ _ hx,PX _ _ _ _ hx,PX _ _ _ _ hx]
theorem Wn {T:Nat}{t2:TypeId}{X:Array Value}(h:w.heap[T]? =some (.cells #[c0,c1,c2,c3,c4] t (0,0)))(v:Value):
  ∃V,V=(w.alloc (Obj.cells X t2)).setCell ⟨T,4,none⟩ v/\V.heap[T]? =some (.cells #[c0,c1,c2,c3,v] t (0,0))/\V.heap.size=w.heap.size+1/\V.heap[w.heap.size]? =some (.cells X t2 (0,0))/\(∀x,x<w.heap.size->x≠T->V.heap[x]? =w.heap[x]?)/\V.os=w.os/\V.tape=w.tape/\V.output=w.output:=by
 have hl:=PV h;have hT:(w.alloc (Obj.cells X t2)).heap[T]? =some (.cells #[c0,c1,c2,c3,c4] t (0,0)):=(Qq _ _ _ hl).trans h;have a4:=Q5 (i:=4) (v:=v) hT;have hk:=(Kx.refl T (w.alloc (Obj.cells X t2))).setCell 4 v;have hn:=PF w (Obj.cells X t2);have e: #[c0,c1,c2,c3,c4].setIfInBounds 4 v= #[c0,c1,c2,c3,v]:=rfl;rw [e] at a4;refine ⟨_,rfl,a4,by simp [World.setCell],?_,λx hx Eo=> ?_,hk.os,hk.tape,hk.output⟩
 ·rw [PX _ _ _ _ (show w.heap.size≠T by omega)];exact hn
 rw [PX _ _ _ _ Eo];exact Qq _ _ _ hx
theorem Nb (k:Kn)(c:Cs):∀(l:List Cs),(Rz k c l).length<=l.length+1
 | []=>P6 _
 | a::r=>by
  have:=Nb k c r;unfold Rz;split
  ·simp
  split<;>simp<;>omega
theorem Oe (k:Kn):∀(l:List Sp),(Pg k l).length<=l.length
 | []=>P6 _
 | a::r=>by
  have h1:=Oe k r;have h2:=Nb k (PA a.2) (Pg k r);show (Rz k (PA a.2) (Pg k r)).length<=r.length+1;omega
def ZZ (w:World)(lo:Nat)(v:Value)(n:Nat):Prop:=∃ad cap bp,v= .slice ad n cap/\QG w 1 3 ad n cap bp/\∀b∈bp,lo<=b/\b<w.heap.size
theorem Yf {lo:Nat}{v:Value}{xs:List Value}(h:w.ownsRow lo 3 1 v n xs):ZZ w lo v n:=by
 obtain ⟨_,⟨h1,h2⟩ | ⟨g,cap,cur,h1,h2,h3,h4,h5,h6,_⟩⟩:=h
 ·exact ⟨none,0,[],by rw [h1,h2],.inl ⟨rfl,h2,rfl,rfl⟩,λb hb=>by simp at hb⟩
 exact ⟨_,cap,[g],h1,.inr ⟨g,cur,rfl,rfl,h3,h6,h4,h5⟩,λb hb=>by
  rw [Ra.1 hb];exact ⟨h2,PV h3⟩⟩
theorem vr1 {k:Kn}{fs:List Pu}{fa:Option Addr}{fc b m f:Nat}{cols:List PM}{rows:List Nat}{cv rv:Value}{S:Nat->Prop}(hK:KnOk k fs)(hT:Tl k fs fa fc b m f)(h:BrIn k fs fa fc b m f n cols rows cv rv S w)(ax:Nat)(ha:ax<cols.length)(am:PK cols[ax].2.2 rows≠[]):
  Calls Tryz.prog 55 #[.pointer (some ⟨m,0,none⟩),cv,.int .i64 ax,rv] w (Jx k fs fa fc b m f n cols rows ax cols[ax] w):=by
 have dq:=PV h.blk;have aw:∀x,S x->x<w.heap.size:=λx hx=>(h.set x hx).1;have cH:rows.length<=200:=Zz h.rise 200 h.low;obtain ⟨ca,cc,rfl,bA⟩:=Pd.open h.hcols;obtain ⟨cg,co,rfl,hcc,Ep⟩:=bA (λe=>by rw [e] at ha;simp at ha);obtain ⟨_,cb,p0,cP⟩:=Ep ax ha;have hg:=h.good cols[ax] (Px ha);have BP:S cg:=(Ep ax ha).1;rw [R4] at p0;have br:Hid (BrIn k fs fa fc b m f n cols rows (.slice (some ⟨cg,co,none⟩) cols.length cc) rv S w):=h;have HG:Hid (Good k (5001-f) cols[ax]):=hg;have i8:Hid (∀x,S x->x<w.heap.size):=aw;have hW:∃W,W=w.alloc (Obj.cells #[.int .i64 0,.int .i64 0,.slice none 0 0,.slice none 0 0,.slice none 0 0] 30)/\Below w.heap.size w W/\W.heap.size=w.heap.size+1/\W.heap[w.heap.size]? =some (.cells #[.int .i64 0,.int .i64 0,.slice none 0 0,.slice none 0 0,.slice none 0 0] 30 (0,0)):=⟨_,rfl,(Pb _ _).alloc (P6 _) _,by simp,PF w _⟩;obtain ⟨W,hW,an,aO,Hn⟩:=hW;have rk:OZ S w W:=OZ.of an aw;have CO:=Yv (w:=W) (S:=S) cb cols[ax] rv rows (λx hx=>by have:=aw x hx;omega) (cP.on rk) (h.hrows.on rk) cH hg.len h.rise;have q0:=(an.cell (p:=⟨cg,co+ax,none⟩) (aw _ BP)).trans p0;have i1:(0:Int)<=(ax:Int):=by omega
 have i2:(ax:Int)<(cols.length:Int):=by omega
 have HW:=Ro an aO Hn;have sZ:Hid (QR w S cb cols[ax]):=cP;clear rk an aO Hn cP Ep bA hg h aw p0 BP;go_enter Tryz.func55,Tryz.ntmps55
 go_upto_region 1 with fail
 rw [<-hW];clear hW
 go_upto_region 3 with (first | (go_at_call 74;(with_reducible refine Pe CO ?_);rintro e' w2 ⟨hb2,sv,rfl,hsp⟩))
 have aS:Hid (Below w.heap.size w w2/\w.heap.size+1<=w2.heap.size/\w2.heap[w.heap.size]? =some (.cells #[.int .i64 0,.int .i64 0,.slice none 0 0,.slice none 0 0,.slice none 0 0] 30 (0,0))):=by
  have h1:=HW.out.2.1;exact ⟨HW.out.1.trans (hb2.mono (by omega)),by have:=hb2.size;omega,(hb2.block _ (by omega)).trans HW.out.2.2⟩
 have pH:Hid (Q3 w2 (λx=>S x\/(w.heap.size<=x/\x<w2.heap.size)) sv (PK cols[ax].2.2 rows)):=by
  refine hsp.up λx hx=>hx.imp_right λh=>⟨?_,h.2⟩;have:=HW.out.2.1;omega
 clear hb2 hsp CO q0;have hk2:OZ S w w2:=OZ.of aS.out.1 i8.out;obtain ⟨cg2,⟨pa,pc,a0,ut⟩,a1,_,_⟩:=sZ.out.on hk2;have bg:cb<w2.heap.size:=by have:=i8.out cb cg2;have:=aS.out.1.size;omega
 have eC:∃W3,W3=w2.alloc (Obj.cells #[.int .i64 cols[ax].2.1] 3)/\Below w2.heap.size w2 W3/\W3.heap.size=w2.heap.size+1/\W3.cell? ⟨w2.heap.size,0,none⟩=some (.int .i64 cols[ax].2.1):=⟨_,rfl,(Pb _ _).alloc (P6 _) _,by simp,P5 (PF w2 _) rfl⟩;obtain ⟨W3,eC,hb3,mx,x0⟩:=eC;have CJ:Calls Tryz.prog 75 #[.slice pa cols[ax].1.length pc,.slice (some ⟨w2.heap.size,0,none⟩) 1 1] W3.drew λr w'=>∃v,r= .returned v/\Below W3.heap.size W3 w'/\Pv w' (λx=>W3.heap.size<=x/\x<w'.heap.size) v (cols[ax].1++[cols[ax].2.1])/\ZZ w' W3.heap.size v (cols[ax].1.length+1):=by
  have kY:OZ S w2 W3.drew:=λx hx=>hb3.block x (by have:=i8.out x hx;have:=aS.out.1.size;omega);have:=WG (cols[ax].1.map λ(n:Nat)=>Value.int .i64 n) [.int .i64 cols[ax].2.1] pa (some ⟨w2.heap.size,0,none⟩) pc 1 (λx=>S x\/x=w2.heap.size) W3.drew (λx hx=>by
   show x<W3.heap.size;rcases hx with hx | rfl
   ·have:=i8.out x hx;have:=aS.out.1.size;omega
   ·omega) (by
   rw [Qb];exact (nr0 (ut.on kY)).mono λ_ _ _ _ ⟨e1,e2⟩=>⟨.inl e1,e2⟩) (.inr ⟨w2.heap.size,0,1,rfl,by simp,by simp,λj hj=>by
    obtain rfl:j=0:=by simpa using hj
    exact ⟨.inr rfl,x0⟩⟩) (by intro u hu;obtain ⟨n,_,rfl⟩:=PI.1 hu;rfl) (by simp [Value.oneCell']) (by have:=HG.out.path;simp;omega)
  rw [Qb] at this;refine this.mono λr w' ⟨v,e1,e2,e3⟩=>⟨v,e1,⟨e3.os,e3.tape,e3.output,e3.size,e3.block⟩,?_⟩;have e4:(cols[ax].1.map λ(n:Nat)=>Value.int .i64 n)++[.int .i64 cols[ax].2.1]=(cols[ax].1++[cols[ax].2.1]).map λ(n:Nat)=>Value.int .i64 n:=by simp
  rw [e4] at e2;refine ⟨(ns0 e2).2,?_⟩;have:=Yf e2;simpa using this
 have BQ:Hid (cols[ax].1.length=cols[ax].1.length):=rfl;have HB3:=Qh hb3 mx;have kT:∀pt:Addr,pt.block<w2.heap.size->((w2.alloc (Obj.cells #[.int .i64 cols[ax].2.1] 3)).drew).cell? pt=w2.cell? pt:=λpt h=>Ut (w:=w2) (Qq _ _ _ h);clear ut hb3 mx x0 hk2;generalize bo:cols[ax].1.length=pl at *
 generalize dK:cols[ax].2.1=num at *
 go_region_held3 (λw'=>w'.cell? ⟨cb,0,none⟩=some (.slice pa pl pc)/\w'.cell? ⟨cb,1,none⟩=some (.int .i64 num)) (first | exact ⟨a0,a1⟩ | assumption | exact ⟨(kT _ bg).trans a0,(kT _ bg).trans a1⟩ | (have hk:∀p:Addr,p.block<w2.heap.size->w3.cell? p=w2.cell? p:=λp hp=>(hb4.cell (p:=p) (by have:=HB3.out.2;omega)).trans (HB3.out.1.cell hp);exact ⟨(hk _ bg).trans a0,(hk _ bg).trans a1⟩) | go_keep)
  (first | (go_at_call 75;rw [<-eC];(with_reducible refine Pe CJ ?_);rintro e' w3 ⟨pv,rfl,hb4,hpv,hpo⟩))
 all_goals
  have cZ:Hid (Below w.heap.size w w3/\w.heap.size+1<=w3.heap.size/\w2.heap.size<=w3.heap.size/\w3.heap[w.heap.size]? =some (.cells #[.int .i64 0,.int .i64 0,.slice none 0 0,.slice none 0 0,.slice none 0 0] 30 (0,0))):=by
   have h1:=HB3.out.2;have h2:=aS.out.2.1;have h3:=hb4.size;exact ⟨aS.out.1.trans ((HB3.out.1.mono (by omega)).trans (hb4.mono (by omega))),by omega,by omega,((hb4.block _ (by omega)).trans (HB3.out.1.block _ (by omega))).trans aS.out.2.2⟩
  have zL:Hid (Q3 w3 (λx=>S x\/(w.heap.size<=x/\x<w3.heap.size)) sv (PK cols[ax].2.2 rows)):=by
   have h1:=HB3.out.2;refine (pH.out.on (λx hx=> ?_)).up λx hx=>hx.imp_right λh=>⟨h.1,by have:=cZ.out.2.2.1;omega⟩;have iU:x<w2.heap.size:=by
    rcases hx with hx | hx
    ·have:=i8.out x hx;have:=aS.out.2.1;omega
    exact hx.2
   exact (hb4.block x (by omega)).trans (HB3.out.1.block x iU)
  have pS:Hid (Pv w3 (λx=>S x\/(w.heap.size<=x/\x<w3.heap.size)) pv (cols[ax].1++[num])):=hpv.up λx hx=> .inr ⟨by have:=HB3.out.2;have:=aS.out.2.1;omega,hx.2⟩;have D9:Hid (Pv w3 (λx=>w.heap.size<x/\x<w3.heap.size) pv (cols[ax].1++[num])):=hpv.up λx hx=>⟨by have:=HB3.out.2;have:=aS.out.2.1;omega,hx.2⟩;have BR:Hid (∃ad cap bp,pv= .slice ad (pl+1) cap/\QG w3 1 3 ad (pl+1) cap bp/\∀b∈bp,w.heap.size<b/\b<w3.heap.size):=by
   obtain ⟨ad,cap,bp,e1,e2,e3⟩:=hpo;exact ⟨ad,cap,bp,e1,e2,λb hb=>⟨by have:=e3 b hb;have:=HB3.out.2;have:=aS.out.2.1;omega,(e3 b hb).2⟩⟩
  clear hb4 hpv hpo CJ a0 a1 kT eC bg;have Er:∀x,(S x\/(w.heap.size<=x/\x<w3.heap.size))->x<w3.heap.size:=λx hx=>by
   rcases hx with hx | hx
   ·have:=i8.out x hx;have:=cZ.out.2.1;omega
   exact hx.2
  have dS:=Mv.lt br.out.map;have zM:=PV br.out.blk;have hM3:PP w3 b k:=br.out.map.on (cZ.out.1.block b dS);have oy:=(cZ.out.1.block m zM).trans br.out.blk;have e0:=P5 oy (i:=0) rfl;have e1:=P5 oy (i:=1) rfl;have ou:=HG.out.right.sub hK (a:=PK cols[ax].2.2 rows) TW;have lg:(PK cols[ax].2.2 rows).length<=200:=PZ (T8 _ _) HG.out.len;have CA:=Ml (w:=w3) fa fs.length fc sv (PK cols[ax].2.2 rows) Er hM3 zL.out lg (Uf hK ou.together);obtain ⟨lP,lQ,zN⟩:=pS.out.len;have jp:(cols[ax].1++[num]).length=pl+1:=by rw [QP,bo];rfl
  rw [jp] at zN;subst zN;have BR:Hid (∃bp,QG w3 1 3 lP (pl+1) lQ bp/\∀b∈bp,w.heap.size<b/\b<w3.heap.size):=by
   obtain ⟨ad,cap,bp,e1,e2⟩:=BR.out;injection e1 with e1 _ e3;subst e1 e3;exact ⟨bp,e2⟩
  clear hM3 oy dS
  go_upto_region 5 with (first | (go_at_call 71;(with_reducible refine Pe CA ?_);rintro e' w4 ⟨hb5,v5,rfl,blk,ccap,cur,rfl,hcle,hblk5,hcur,hcz,hcells⟩))
  have aq:∀x,(S x\/(w.heap.size<=x/\x<w3.heap.size))->x<w3.heap.size:=Er;have zO:=hb5.size;have Ho:Hid (Rd k fs fa fc b m cols rows cg co cc rv sv (.slice lP (pl+1) lQ) (PK cols[ax].2.2 rows) (cols[ax].1++[num]) (λx=>S x\/(w.heap.size<=x/\x<w3.heap.size)) w3):=by
   have hk3:OZ S w w3:=OZ.of cZ.out.1 i8.out;refine ⟨λx hx=>⟨aq x hx,?_⟩,br.out.map.on (cZ.out.1.block b (Mv.lt br.out.map)),(br.out.fams.on hk3).up λ_ h=> .inl h,(br.out.hcols.on hk3).up λ_ h=> .inl h,hcc,(br.out.hrows.on hk3).up λ_ h=> .inl h,zL.out,pS.out⟩;rcases hx with hx | hx
   ·exact (br.out.set x hx).2
   omega
  have Hp:Hid (Cx k fs fa fc b m f n cols rows ax):=⟨hK,hT,br.out.fuel,br.out.mapne,ha,br.out.good,br.out.num,br.out.rise,br.out.low⟩;have zP:(Pg k (PK cols[ax].2.2 rows)).length<=200:=PZ (Oe k _) lg;generalize oz:PK cols[ax].2.2 rows=af at *
  generalize zQ:Pg k af=cs at *
  generalize lh:cols[ax].1++[num]=path at *
  have gM:∃W4,W4=w4.alloc (Obj.cells #[.int .i64 3,.int .i64 0,.slice lP (pl+1) lQ,.slice (some ⟨blk,0,none⟩) cs.length ccap,.slice none 0 0] 30)/\Below w4.heap.size w4 W4/\W4.heap.size=w4.heap.size+1/\W4.heap[w4.heap.size]? =some (.cells #[.int .i64 3,.int .i64 0,.slice lP (pl+1) lQ,.slice (some ⟨blk,0,none⟩) cs.length ccap,.slice none 0 0] 30 (0,0)):=⟨_,rfl,(Pb _ _).alloc (P6 _) _,by simp,PF w4 _⟩;obtain ⟨W4,gM,uA,zR,uB⟩:=gM;rw [<-gM];clear gM;have kC:Hid (Below w3.heap.size w3 W4):=hb5.trans (uA.mono zO);have gD:Hid (Below w.heap.size w W4):=cZ.out.1.trans (kC.out.mono (by have:=cZ.out.2.1;omega));have BL:b<w3.heap.size:=Mv.lt Ho.out.map;have HR4:Hid (Rd k fs fa fc b m cols rows cg co cc rv sv (.slice lP (pl+1) lQ) af path (λx=>S x\/(w.heap.size<=x/\x<w3.heap.size)) W4):=Ho.out.on (OZ.of kC.out aq) (kC.out.block b BL) kC.out.size;have zS:Hid (w3.heap.size<=blk/\blk<w4.heap.size/\m<w.heap.size/\W4.heap.size=w4.heap.size+1/\w.heap.size+1<=w3.heap.size):=⟨hblk5.1,hblk5.2,dq,zR,cZ.out.2.1⟩;have zT:Hid (Pv W4 (λx=>w.heap.size<x/\x<w3.heap.size) (.slice lP path.length lQ) path):=by
   have:=D9.out.on (λx hx=>kC.out.block x hx.2)
   rwa [<-jp] at this
  have Hq:Hid (pl+1=path.length):=jp.symm;have zU:Hid (∃bp,QG W4 1 3 lP path.length lQ bp/\∀b∈bp,w.heap.size<b/\b<w3.heap.size):=by
   obtain ⟨bp,e1,e2⟩:=BR.out;rw [<-jp] at e1;exact ⟨bp,e1.on λb hb=>kC.out.block b (e2 b hb).2,e2⟩
  have uC:Hid (cur.size=ccap*7/\ccap<=200):=hcz;have gP:Hid (af=PK cols[ax].2.2 rows/\path=cols[ax].1++[cols[ax].2.1]/\cs=Pg k af/\af≠[]/\together k af=true):=⟨oz.symm,by rw [<-lh,dK],zQ.symm,am,ou.together⟩;have dB:Hid (Bw (PG k fs f cols rows ax af path) cs n m (.slice fa fs.length fc) (.map (some b)) W4 blk 0 cur W4):=Bw.start _ _ _ _ _ _ _ _ _ ((gD.out.block m dq).trans br.out.blk) ((uA.block blk hblk5.2).trans hcur) hcells br.out.fuel.2.2;have li:Hid (W4.heap[w4.heap.size]? =some (.cells #[.int .i64 3,.int .i64 0,.slice lP (pl+1) lQ,.slice (some ⟨blk,0,none⟩) cs.length ccap,.slice none 0 0] 30 (0,0))):=uB;have t3:=P5 uB (i:=3) rfl;have nL:Hid (W4.heap[w.heap.size]? =some (.cells #[.int .i64 0,.int .i64 0,.slice none 0 0,.slice none 0 0,.slice none 0 0] 30 (0,0))):=(kC.out.block _ cZ.out.2.1).trans cZ.out.2.2.2;have zV:Hid (cs.length<=ccap):=hcle;clear hcz BR hcells hcur ou lh jp dK oz zQ hblk5 uB uA zR zO hb5 lg zM Er aq BL am hcle e0 e1 CA;generalize ad5:w4.heap.size=T at *
  generalize Hr:w.heap.size=R at *
  generalize ah7:w3.heap.size=Ph at *
  go_wp2;clear t3
  go_loopw [46] (λiv wr=>∃(i:Nat) (cur:Array Value),i<=cs.length/\iv= .int .i64 i/\Hid (cur.size=ccap*7/\ccap<=200)/\Hid (Bw (PG k fs f cols rows ax af path) cs n m (.slice fa fs.length fc) (.map (some b)) W4 blk i cur wr)) (λiv _=>cs.length-(intOf iv).toNat)
  case atStart=>exact ⟨0,cur,by omega,by go_num,uC.out,dB.out⟩
  clear uC;obtain ⟨i,cur,hi,rfl,uC,dA⟩:=hrel;by_cases ag:i<cs.length
  ·have h4:=zS.out;have cb4:b<R:=by have:=Mv.lt br.out.map;omega
   have CA:=vp1 Hp.out gP.out.1 gP.out.2.1 gP.out.2.2.1 HR4.out (Cb:=blk) (λx hx=>by
    rcases hx with hx | hx
    ·have:=i8.out x hx;omega
    omega) (by omega) (by omega) (by omega) (by omega) dA.out ag zP
   obtain ⟨y0,y1⟩:=dA.out.names i ag;obtain ⟨y2,y3,y4,y5,y6⟩:=dA.out.zero i ag (P6 _);have y0:=P5 dA.out.cblk y0;have y1:=P5 dA.out.cblk y1;have y2:=P5 dA.out.cblk y2;have y3:=P5 dA.out.cblk y3;have y4:=P5 dA.out.cblk y4;have y5:=P5 dA.out.cblk y5;have y6:=P5 dA.out.cblk y6;have t3:=P5 ((dA.out.keep T (by omega) (by omega) (by omega)).trans li.out) (i:=3) rfl;have m0:=P5 dA.out.mblk (i:=0) rfl;have m1:=P5 dA.out.mblk (i:=1) rfl;have kD:=dA.out.size;have ij:Hid (blk<wr.heap.size/\m<wr.heap.size/\T<wr.heap.size):=⟨by omega,by omega,by omega⟩;clear kD;generalize cs[i]=cx at CA y0 y1;have j1:(0:Int)<=(i:Int):=by omega
   have j2:(i:Int)<(cs.length:Int):=by omega
   go_upto_region 10 with (first | (go_at_call 72;(with_reducible refine Pe CA ?_);rintro e' w1 ⟨av,uv,rfl,hb1,CW⟩))
   have zW:Hid (∀w':World,Below wr.heap.size wr w'->w'.cell? ⟨m,0,none⟩=some (.slice fa fs.length fc)/\w'.cell? ⟨m,1,none⟩=some (.map (some b))/\w'.cell? ⟨blk,i*7,none⟩=some (.string ⟨cx.1.toArray⟩)):=λw' h=>⟨(h.cell (p:=⟨m,0,none⟩) ij.out.2.1).trans m0,(h.cell (p:=⟨m,1,none⟩) ij.out.2.1).trans m1,(h.cell (p:=⟨blk,i*7,none⟩) ij.out.1).trans y0⟩;clear y0 y1 y2 y3 y4 y5 y6 t3 m0 m1 CA;have sK:Below wr.heap.size wr w1.drew:=⟨hb1.os,hb1.tape,hb1.output,hb1.size,hb1.block⟩;have vA:=CW w1.drew ⟨rfl,rfl,rfl,rfl⟩;clear CW hb1
   go_region_held3 (λw'=>w'.cell? ⟨m,0,none⟩=some (.slice fa fs.length fc)/\w'.cell? ⟨m,1,none⟩=some (.map (some b))/\w'.cell? ⟨blk,i*7,none⟩=some (.string ⟨cx.1.toArray⟩)) (first | exact zW.out _ sK | assumption | exact zW.out _ hb2 | go_keep)
    (first | (go_at_call 73;(with_reducible refine Pe vA ?_);rintro e' w5 ⟨fv,rfl,hb2,CC⟩))
   have tG:=CC w5 ⟨rfl,rfl,rfl,rfl⟩;clear CC hb2 vA sK
   go_wp2_with (first
    | (go_at_call 76;(with_reducible refine Pe tG ?_);rintro e' w6 ⟨vv,rfl,-,CD⟩;have BS:=CD w6 ⟨rfl,rfl,rfl,rfl⟩;clear CD)
    | (go_at_call 77;(with_reducible refine Pe BS ?_);rintro e' w7 ⟨yv,rfl,-,CE⟩;have BT:=CE w7 ⟨rfl,rfl,rfl,rfl⟩;clear CE)
    | (go_at_call 29;(with_reducible refine Pe BT ?_);rintro e' w8 ⟨ta,tb,pa',pl',pc',ca',cl',cc',ea',el',ec',rfl,hcb8,-,U,hU,cur',hcz',hBU⟩;have cl2:Hid (cur'.size=ccap*7/\ccap<=200):=⟨hcz'.trans uC.out.1,uC.out.2⟩;clear hcz';have nK:Hid (Bw (PG k fs f cols rows ax af path) cs n m (.slice fa fs.length fc) (.map (some b)) W4 blk (i+1) cur' U):=hBU;clear hBU;have y2:=P5 hcb8 (dA.out.zero i ag (P6 _)).1;have y3:=P5 hcb8 (dA.out.zero i ag (P6 _)).2.1;have y4:=P5 hcb8 (dA.out.zero i ag (P6 _)).2.2.1;have y5:=P5 hcb8 (dA.out.zero i ag (P6 _)).2.2.2.1;have y6:=P5 hcb8 (dA.out.zero i ag (P6 _)).2.2.2.2;have z2:=Pp (o:=i*7+2) hcb8;have z3:=Pp (o:=i*7+3) hcb8;have z4:=Pp (o:=i*7+4) hcb8;have z5:=Pp (o:=i*7+5) hcb8;have z6:=Pp (o:=i*7+6) hcb8))
   refine ⟨⟨i+1,cur',ag,by go_num,cl2.out,?_⟩,by simp [intOf];omega⟩;rw [hU] at nK;exact nK
  obtain rfl:i=cs.length:=by omega
  have h4:=zS.out;have cb4:b<R:=by have:=Mv.lt br.out.map;omega
  have CA:=vq1 Hp.out gP.out.1 gP.out.2.2.1 gP.out.2.2.2.1 HR4.out (Cb:=blk) (λx hx=>by
   rcases hx with hx | hx
   ·have:=i8.out x hx;omega
   omega) (by omega) (by omega) dA.out zP ccap
  have Et:=(dA.out.keep T (by omega) (by omega) (by omega)).trans li.out;have Hs:=(dA.out.keep R (by omega) (by omega) (by omega)).trans nL.out;have t3:=P5 Et (i:=3) rfl;have m0:=P5 dA.out.mblk (i:=0) rfl;have m1:=P5 dA.out.mblk (i:=1) rfl;have kD:=dA.out.size;have ij:Hid (blk<wr.heap.size/\m<wr.heap.size/\T<wr.heap.size/\R<wr.heap.size):=⟨by omega,by omega,by omega,by omega⟩;have jn:=Qh Et Hs;have Ht:=CA wr.drew ⟨rfl,rfl,rfl,rfl⟩;have zW:Hid (∀w':World,Below wr.heap.size wr w'->w'.cell? ⟨m,0,none⟩=some (.slice fa fs.length fc)/\w'.cell? ⟨m,1,none⟩=some (.map (some b))/\w'.cell? ⟨T,3,none⟩=some (.slice (some ⟨blk,0,none⟩) cs.length ccap)):=λw' h=>⟨(h.cell (p:=⟨m,0,none⟩) ij.out.2.1).trans m0,(h.cell (p:=⟨m,1,none⟩) ij.out.2.1).trans m1,(h.cell (p:=⟨T,3,none⟩) ij.out.2.2.1).trans t3⟩;have sK:Below wr.heap.size wr wr.drew:=⟨rfl,rfl,rfl,P6 _,λ_ _=>rfl⟩;clear kD Et Hs t3 m0 m1 CA
  go_upto_region 13 with fail
  go_region_held3 (λw'=>w'.cell? ⟨m,0,none⟩=some (.slice fa fs.length fc)/\w'.cell? ⟨m,1,none⟩=some (.map (some b))/\w'.cell? ⟨T,3,none⟩=some (.slice (some ⟨blk,0,none⟩) cs.length ccap)) (first | exact zW.out _ sK | assumption | exact zW.out _ hb2 | go_keep)
   (first | (go_at_call 78;(with_reducible refine Pe Ht ?_);rintro e' w5 ⟨rfl,hb2,CC⟩))
  have dm:Hid (Below wr.heap.size wr w5):=hb2;clear hb2 sK Ht;cases hF:Ss k fs cs with
  | true=>
   clear CC;have j7:=(dm.out.block T ij.out.2.2.1).trans jn.out.1;have eH:=(dm.out.block R ij.out.2.2.2).trans jn.out.2;have t0:=P5 j7 (i:=0) rfl;have t1:=P5 j7 (i:=1) rfl;have t2:=P5 j7 (i:=2) rfl;have t3:=P5 j7 (i:=3) rfl;have t4:=P5 j7 (i:=4) rfl;have s0:=P5 eH (i:=0) rfl;have s1:=P5 eH (i:=1) rfl;have s2:=P5 eH (i:=2) rfl;have s3:=P5 eH (i:=3) rfl;have s4:=P5 eH (i:=4) rfl;have z0:=Pp (o:=0) eH;have z1:=Pp (o:=1) eH;have z2:=Pp (o:=2) eH;have z3:=Pp (o:=3) eH;have z4:=Pp (o:=4) eH;obtain ⟨U,hU,aG,bj,c9,aP⟩:=Ud eH (.int .i64 3) (.int .i64 0) (.slice lP (pl+1) lQ) (.slice (some ⟨blk,0,none⟩) cs.length ccap) (.slice none 0 0);have HU:=Ro bj c9 aP;clear bj c9 aP j7 eH;go_wp2;rw [<-hU];have u0:=P5 aG (i:=0) rfl;have u1:=P5 aG (i:=1) rfl;have u2:=P5 aG (i:=2) rfl;have u3:=P5 aG (i:=3) rfl;have u4:=P5 aG (i:=4) rfl;refine Qv (v:= .agg #[.int .i64 3,.int .i64 0,.slice lP (pl+1) lQ,.slice (some ⟨blk,0,none⟩) cs.length ccap,.slice none 0 0]) (by simp [results,Tryz.results55,go_sem,u0,u1,u2,u3,u4]) rfl ?_;have hE:=HU.out;have dF:=dm.out;have hz5:=dF.size;have hlt:=ij.out;have kp:=dA.out.cnt;have um:=dA.out.mblk;rw [QM] at kp um;have nQ:T9 k fs f n cols rows ax cols[ax]=(((3,0,path),cs.zip (P9 (PG k fs f cols rows ax af path) cs n).1,[]),(P9 (PG k fs f cols rows ax af path) cs n).2):=by
    have uD:=gP.out;unfold T9;dsimp only;rw [<-uD.1,<-uD.2.1,<-uD.2.2.1,Pc hF]
    rfl
   obtain ⟨bp,uE,uF⟩:=zU.out;have eI:=Vk (els:=[]) (E:=U) (w:=w) (ea:=none) (ec:=0) (R:=R) (T:=T) (Ph:=Ph) hK gP.out.2.2.2.2 gP.out.2.2.1 gP.out.2.2.2.1 HR4.out.hsp dA.out nQ (by omega) ⟨gD.out.os,gD.out.tape,gD.out.output,by have:=gD.out.size;omega,λx hx _=>gD.out.block x (by omega)⟩ Hr.symm (by omega) (by omega) (by omega) (by omega) (by omega) zV.out zT.out uE uF uC.out ⟨hE.2.2.1.trans dF.os,hE.2.2.2.1.trans dF.tape,hE.2.2.2.2.trans dF.output⟩ (by omega) (λx hx iX Eu _=>(hE.2.1 x Eu).trans (dF.block x hx)) ((hE.2.1 m (by omega)).trans ((dF.block m hlt.2.1).trans um)) (.inl ⟨rfl,_,_,rfl⟩) (be:=[]) (ess:=[]) (.inl ⟨rfl,rfl,rfl,rfl⟩) rfl ⟨by simp,λb hb=>by simp at hb⟩ (λi h=>by simp at h);rw [<-Hq.out] at eI;exact eI
  | false=>
   have tG:=CC w5 ⟨rfl,rfl,rfl,rfl⟩;clear CC
   go_upto_region 15 with (first
    | (go_at_call 76;(with_reducible refine Pe tG ?_);rintro e' w6 ⟨vv,rfl,-,CD⟩;have BS:=CD w6 ⟨rfl,rfl,rfl,rfl⟩;clear CD)
    | (go_at_call 77;(with_reducible refine Pe BS ?_);rintro e' w7 ⟨yv,rfl,-,CE⟩;have BT:=CE w7 ⟨rfl,rfl,rfl,rfl⟩;clear CE)
    | (go_at_call 29;(with_reducible refine Pe BT ?_);rintro e' w8 ⟨ta,tb,pa',pl',pc',ca',cl',cc',ea',el',ec',rfl,hkx,hmb8,hbd8,htr8,hto8⟩;have Ev:Hid _:=hto8;clear hto8;have BU:Hid (Kx m wr w8):=hkx;clear hkx;have bg4:Hid _:=hmb8;have Bz:Hid _:=hbd8;have iH:Hid _:=htr8;clear hmb8 hbd8 htr8;have kZ:=(BU.out.block T ij.out.2.2.1 (by have:=zS.out;omega)).trans jn.out.1;have Ew:(w8.alloc (Obj.cells #[.int .i64 ta,.int .i64 tb,.slice pa' pl' pc',.slice ca' cl' cc',.slice ea' el' ec'] 30)).heap[T]? =some (.cells #[.int .i64 3,.int .i64 0,.slice lP (pl+1) lQ,.slice (some ⟨blk,0,none⟩) cs.length ccap,.slice none 0 0] 30 (0,0)):=(Qq _ _ _ (PV kZ)).trans kZ;have t4:=P5 Ew (i:=4) rfl;have f4:=Pp (o:=4) Ew))
   obtain ⟨V,hV,wD,j5,Hu,gZ,ku⟩:=Wn (X:= #[.int .i64 ta,.int .i64 tb,.slice pa' pl' pc',.slice ca' cl' cc',.slice ea' el' ec']) (t2:=30) kZ (.slice (some ⟨w8.heap.size,0,none⟩) 1 1);rw [<-hV];have HV:=S6 j5 Hu gZ ku;have mR:V.heap[R]? =some (.cells #[.int .i64 0,.int .i64 0,.slice none 0 0,.slice none 0 0,.slice none 0 0] 30 (0,0)):=by
    have:=ij.out;have:=BU.out.size;have:=zS.out;rw [gZ R (by omega) (by omega),BU.out.block R (by omega) (by omega)];exact jn.out.2
   clear hV j5 Hu gZ ku kZ Ew t4 f4 tG BS BT;have t0:=P5 wD (i:=0) rfl;have t1:=P5 wD (i:=1) rfl;have t2:=P5 wD (i:=2) rfl;have t3:=P5 wD (i:=3) rfl;have t4:=P5 wD (i:=4) rfl;have s0:=P5 mR (i:=0) rfl;have s1:=P5 mR (i:=1) rfl;have s2:=P5 mR (i:=2) rfl;have s3:=P5 mR (i:=3) rfl;have s4:=P5 mR (i:=4) rfl;have z0:=Pp (o:=0) mR;have z1:=Pp (o:=1) mR;have z2:=Pp (o:=2) mR;have z3:=Pp (o:=3) mR;have z4:=Pp (o:=4) mR;obtain ⟨U,hU,aG,bj,c9,aP⟩:=Ud mR (.int .i64 3) (.int .i64 0) (.slice lP (pl+1) lQ) (.slice (some ⟨blk,0,none⟩) cs.length ccap) (.slice (some ⟨w8.heap.size,0,none⟩) 1 1);have HU:=Ro bj c9 aP;clear bj c9 aP wD mR;go_wp2;rw [<-hU];have u0:=P5 aG (i:=0) rfl;have u1:=P5 aG (i:=1) rfl;have u2:=P5 aG (i:=2) rfl;have u3:=P5 aG (i:=3) rfl;have u4:=P5 aG (i:=4) rfl;refine Qv (v:= .agg #[.int .i64 3,.int .i64 0,.slice lP (pl+1) lQ,.slice (some ⟨blk,0,none⟩) cs.length ccap,.slice (some ⟨w8.heap.size,0,none⟩) 1 1]) (by simp [results,Tryz.results55,go_sem,u0,u1,u2,u3,u4]) rfl ?_;have hE:=HU.out;have hv:=HV.out;have zX:=BU.out;have Hl:=zX.size;have hlt:=ij.out;have h4:=zS.out;have nQ:T9 k fs f n cols rows ax cols[ax]=(((3,0,path),cs.zip (P9 (PG k fs f cols rows ax af path) cs n).1,[(Ps k fs f (P9 (PG k fs f cols rows ax af path) cs n).2 (cols.take ax++cols.drop (ax+1)) (QE rows af)).1]),(Ps k fs f (P9 (PG k fs f cols rows ax af path) cs n).2 (cols.take ax++cols.drop (ax+1)) (QE rows af)).2):=by
    have uD:=gP.out;unfold T9;dsimp only;rw [<-uD.1,<-uD.2.1,<-uD.2.2.1,P7 (by rw [hF];simp)]
    rfl
   have io:U.heap[w8.heap.size]? =some (.cells #[.int .i64 ta,.int .i64 tb,.slice pa' pl' pc',.slice ca' cl' cc',.slice ea' el' ec'] 30 (0,0)):=(hE.2.1 _ (by omega)).trans hv.2.1;obtain ⟨bp,uE,uF⟩:=zU.out;obtain ⟨zY,bo4,bv3,Ex⟩:=Ev.out;have eI:=Vk (E:=U) (w:=w) (ea:=some ⟨w8.heap.size,0,none⟩) (ec:=1) (R:=R) (T:=T) (Ph:=Ph) hK gP.out.2.2.2.2 gP.out.2.2.1 gP.out.2.2.2.1 HR4.out.hsp dA.out nQ Bz.out ⟨gD.out.os,gD.out.tape,gD.out.output,by have:=gD.out.size;omega,λx hx _=>gD.out.block x (by omega)⟩ Hr.symm (by omega) (by omega) (by omega) (by omega) (by omega) zV.out zT.out uE uF uC.out ⟨hE.2.2.1.trans (hv.2.2.2.1.trans zX.os),hE.2.2.2.1.trans (hv.2.2.2.2.1.trans zX.tape),hE.2.2.2.2.trans (hv.2.2.2.2.2.trans zX.output)⟩ (by omega) (λx hx iX Eu Eo=>(hE.2.1 x Eu).trans ((hv.2.2.1 x (by omega) Eo).trans (zX.block x hx iX))) ((hE.2.1 m (by omega)).trans ((hv.2.2.1 m (by omega) (by omega)).trans bg4.out))
    (.inr ⟨w8.heap.size,0,1,rfl,by simp,by simp,λj hj=>by
     obtain rfl:j=0:=by simpa using hj
     refine ⟨⟨by omega,by omega⟩,_,_,_,_,_,P5 io (i:=0) rfl,P5 io (i:=1) rfl,P5 io (i:=2) rfl,P5 io (i:=3) rfl,P5 io (i:=4) rfl,?_⟩;exact PL.below (λx hx=>(hE.2.1 x (by omega)).trans (hv.2.2.1 x hx.2 (by omega))) (λx hx=>⟨by omega,by omega⟩) f _ _ iH.out⟩)
    (be:=[w8.heap.size]) (ess:=[zY]) (.inr ⟨w8.heap.size,_,rfl,rfl,io,rfl,by simp,by unfold maxLen;omega⟩) rfl
    ⟨by
     rw [show [w8.heap.size]++[zY].flatten=w8.heap.size::zY by simp,U6];exact ⟨λh=>by have:=Ex _ h;omega,bv3⟩,λb hb=>by
     rw [show [w8.heap.size]++[zY].flatten=w8.heap.size::zY by simp] at hb;rcases Qa.1 hb with rfl | hb
     ·omega
     have:=Ex b hb;omega⟩
    (λj hj=>by
     obtain rfl:j=0:=by simpa using hj
     refine ⟨w8.heap.size,_,_,_,_,_,rfl,P5 io (i:=0) rfl,P5 io (i:=1) rfl,P5 io (i:=2) rfl,P5 io (i:=3) rfl,P5 io (i:=4) rfl,?_⟩;exact T1.on f _ _ bo4 λb hb=>by
      have:=Ex b hb;exact (hE.2.1 b (by omega)).trans (hv.2.2.1 b (by omega) (by omega)))
   rw [<-Hq.out] at eI;exact eI
end
section
variable {fs:List Pu}{fa:Option Addr}{fc b m n f:Nat}{rv:Value}{w:World}{k:Kn}
structure TrIn (fs:List Pu)(fa:Option Addr)(fc b m n:Nat)(rv:Value)(w W1:World):Prop where
 kx:Kx m w W1
 size:W1.heap.size=w.heap.size+2
 box:W1.heap[w.heap.size]? =some (.cells #[rv] 26 (0,0))
 res:W1.heap[w.heap.size+1]? =some (.cells #[.int .i64 0,.int .i64 0,.slice none 0 0,.slice none 0 0,.slice none 0 0] 30 (0,0))
 mblk:W1.heap[m]? =some (.cells #[.slice fa fs.length fc,.map (some b),.int .i64 (n+1:Nat)] 76 (0,0))
theorem X5 {A:World}(hA:A=(w.alloc (.cells #[rv] 26)).alloc (.cells #[.int .i64 0,.int .i64 0,.slice none 0 0,.slice none 0 0,.slice none 0 0] 30))(h:w.heap[m]? =some (.cells #[.slice fa fs.length fc,.map (some b),.int .i64 n] 76 (0,0))):
  A.heap[m]? =some (.cells #[.slice fa fs.length fc,.map (some b),.int .i64 n] 76 (0,0))/\TrIn fs fa fc b m n rv w (A.setCell ⟨m,2,none⟩ (.int .i64 (n+1:Nat))):=by
 have dq:=PV h;have hb:Below w.heap.size w A:=by
  rw [hA];exact ((Pb _ _).alloc (P6 _) _).alloc (by simp) _
 have hm:=(hb.block m dq).trans h;have hs:A.heap.size=w.heap.size+2:=by rw [hA];simp
 have hx:A.heap[w.heap.size]? =some (.cells #[rv] 26 (0,0)):=by
  rw [hA];exact (Qq _ _ _ (by simp)).trans (PF w _)
 have hr:A.heap[w.heap.size+1]? =some (.cells #[.int .i64 0,.int .i64 0,.slice none 0 0,.slice none 0 0,.slice none 0 0] 30 (0,0)):=by
  have:=PF (w.alloc (.cells #[rv] 26)) (.cells #[.int .i64 0,.int .i64 0,.slice none 0 0,.slice none 0 0,.slice none 0 0] 30);rw [<-hA] at this;simpa using this
 refine ⟨hm,(Kx.of hb).setCell 2 _,by simp [World.setCell,hs],?_,?_,?_⟩
 ·rw [PX _ _ _ _ (show w.heap.size≠m by omega)];exact hx
 ·rw [PX _ _ _ _ (show w.heap.size+1≠m by omega)];exact hr
 exact Q5 hm
theorem Gc {cols:List PM}{rows:List Nat}{x:Value}{W1 w2 U:World}(h:TrIn fs fa fc b m n rv w W1)(dq:m<w.heap.size)(hk:Kx m W1 w2)(cc2:U.heap.size=w2.heap.size)(BV:∀y,y≠w.heap.size+1->U.heap[y]? =w2.heap[y]?)(Ey:U.os=w2.os/\U.tape=w2.tape/\U.output=w2.output)
  (hm:w2.heap[m]? =some (.cells #[.slice fa fs.length fc,.map (some b),.int .i64 (Ps k fs f n cols rows).2] 76 (0,0))) (hc:(5000<=n->(Ps k fs f n cols rows).2=n+1)/\(n<5000->(Ps k fs f n cols rows).2<=5001+201*f)) (ht:PL w2 (λy=>W1.heap.size<=y/\y<w2.heap.size) f x (Ps k fs f n cols rows).1) (ho:TN w2 W1.heap.size w2.heap.size f x):
  Kx m w U/\U.heap[m]? =some (.cells #[.slice fa fs.length fc,.map (some b),.int .i64 (Ps k fs f n cols rows).2] 76 (0,0))/\((5000<=n->(Ps k fs f n cols rows).2=n+1)/\(n<5000->(Ps k fs f n cols rows).2<=5001+201*f))/\
  ∃x',Ending.returned x= .returned x'/\PL U (λb=>w.heap.size<=b/\b<U.heap.size) f x' (Ps k fs f n cols rows).1/\TN U w.heap.size U.heap.size f x':=by
 have h1:=h.kx.trans hk;have hs:=h.size;refine ⟨⟨Ey.1.trans h1.os,Ey.2.1.trans h1.tape,Ey.2.2.trans h1.output,by rw [cc2];exact h1.size,λy hy bo5=>(BV y (by omega)).trans (h1.block y hy bo5)⟩,(BV m (by omega)).trans hm,hc,x,rfl,?_,?_⟩
 ·exact PL.below (λy hy=>BV y (by omega)) (λy hy=>⟨by omega,by omega⟩) f _ _ ht
 exact ho.on (λy h1 h2=>BV y (by omega)) (by omega) (by omega)
theorem LV (hK:KnOk k fs)(hT:∀f',f=f'+1->Tl k fs fa fc b m f'):Tl k fs fa fc b m f:=by
 intro n cols rows cv rv S w h;have dq:=PV h.blk;obtain ⟨ra,rc,rfl,au⟩:=Pd.open h.hrows;have bR:=P4 au;clear au;have hA:∃A,A=(w.alloc (.cells #[.slice ra rows.length rc] 26)).alloc (.cells #[.int .i64 0,.int .i64 0,.slice none 0 0,.slice none 0 0,.slice none 0 0] 30):=⟨_,rfl⟩;obtain ⟨A,hA⟩:=hA;obtain ⟨Ez,bh⟩:=X5 hA h.blk;have m2:=P5 Ez (i:=2) rfl;have f2:=Pp (o:=2) Ez;have ji:=h.cnt;have iu:IntKind.i64.wrap ((n:Int)+1)=((n+1:Nat):Int):=by rw [RV];omega
 obtain ⟨W1,aD⟩:∃W1,W1=A.setCell ⟨m,2,none⟩ (.int .i64 ((n:Int)+1)):=⟨_,rfl⟩;rw [show (((n+1:Nat)):Int)=(n:Int)+1 from rfl,<-aD] at bh;have HI:=P4 h;have HX:=P4 bh;have zZ:=P4 dq;clear Ez bh dq h;go_enter Tryz.func29,Tryz.ntmps29
 go_upto_region 1 with fail
 rw [<-hA];clear hA
 go_upto_region 2 with fail
 rw [<-aD];clear aD;have n2:W1.cell? ⟨m,2,none⟩=some (.int .i64 ((n:Int)+1)):=P5 HX.mblk (i:=2) rfl;have b0:=P5 HX.box (i:=0) rfl;clear m2 f2;have eH:=HX.res;have s0:=P5 eH (i:=0) rfl;have s1:=P5 eH (i:=1) rfl;have s2:=P5 eH (i:=2) rfl;have s3:=P5 eH (i:=3) rfl;have s4:=P5 eH (i:=4) rfl;have z0:=Pp (o:=0) eH;have z1:=Pp (o:=1) eH;have z2:=Pp (o:=2) eH;have z3:=Pp (o:=3) eH;have z4:=Pp (o:=4) eH;have ib:Hid (∀v0 v1 v2 v3 v4,_):=λv0 v1 v2 v3 v4=>Ud eH v0 v1 v2 v3 v4;have Hv:Hid (∀q v0 v1 v2 v3 v4,_):=λq v0 v1 v2 v3 v4=>Ud (w:=W1.drewN q) eH v0 v1 v2 v3 v4;clear eH;by_cases hn:5000<=n
 ·have c1:(5000:Int)<(n:Int)+1:=by omega
  obtain ⟨U,hU,aG,bj,c9,aP⟩:=ib.out (.int .i64 0) (.int .i64 0) (.slice none 0 0) (.slice none 0 0) (.slice none 0 0);have HU:=Ro bj c9 aP;clear bj c9 aP;go_wp2;rw [<-hU];have u0:=P5 aG (i:=0) rfl;have u1:=P5 aG (i:=1) rfl;have u2:=P5 aG (i:=2) rfl;have u3:=P5 aG (i:=3) rfl;have u4:=P5 aG (i:=4) rfl;refine Qv (v:= .agg #[.int .i64 0,.int .i64 0,.slice none 0 0,.slice none 0 0,.slice none 0 0]) (by simp [results,Tryz.results29,go_sem,u0,u1,u2,u3,u4]) rfl ?_;have hE:=HU.out;have e:=Vq k fs f n cols rows hn;exact Gc HX.out zZ.out (Kx.refl _ _) hE.1 hE.2.1 hE.2.2 (by rw [e];exact HX.out.mblk) ⟨λ_=>by rw [e],λh=>by omega⟩ (by rw [e];exact Y3 _ _ _) (Xd _ _ _ _)
 have c1:¬(5000:Int)<(n:Int)+1:=by omega
 have Ej:=HI.fuel;obtain ⟨f,rfl⟩:∃f',f=f'+1:=⟨f-1,by omega⟩;have hT:=hT f rfl;have HN:=P4 (Nat.lt_of_not_le hn);clear hn;rcases (show rows=[]\/∃r bO,rows=r::bO by cases rows with | nil=>exact .inl rfl | cons r l=>exact .inr ⟨r,l,rfl⟩) with rfl | ⟨r,bO,dU⟩
 ·skip
  obtain ⟨U,hU,aG,bj,c9,aP⟩:=ib.out (.int .i64 1) (.int .i64 0) (.slice none 0 0) (.slice none 0 0) (.slice none 0 0);have HU:=Ro bj c9 aP;clear bj c9 aP;simp only [YO] at b0⊢;go_wp2;rw [<-hU];have u0:=P5 aG (i:=0) rfl;have u1:=P5 aG (i:=1) rfl;have u2:=P5 aG (i:=2) rfl;have u3:=P5 aG (i:=3) rfl;have u4:=P5 aG (i:=4) rfl;refine Qv (v:= .agg #[.int .i64 1,.int .i64 0,.slice none 0 0,.slice none 0 0,.slice none 0 0]) (by simp [results,Tryz.results29,go_sem,u0,u1,u2,u3,u4]) rfl ?_;have hE:=HU.out;have hn:=HN.out;have e:=VW k fs f n cols hn;exact Gc (x:= .agg #[.int .i64 1,.int .i64 0,.slice none 0 0,.slice none 0 0,.slice none 0 0]) HX.out zZ.out (Kx.refl _ _) hE.1 hE.2.1 hE.2.2 (by rw [e];exact HX.out.mblk) ⟨λh=>by omega,λh=>by rw [e];show n+1<=_;omega⟩ (by rw [e];exact ⟨none,0,none,0,none,0,rfl,.inl ⟨rfl,_,_,rfl⟩,.inl ⟨rfl,_,_,rfl⟩,.inl ⟨rfl,_,_,rfl⟩⟩) (OE _ _ _ _ _ _)
 have cH:0<rows.length:=by rw [dU];simp
 obtain ⟨rg,ro,bw4,fF,dP⟩:=bR.out (λe=>by rw [e] at cH;simp at cH);subst bw4;have dP:=dP 0 cH;have Hw:rows[0]=r:=by simp only [dU,Yx]
 have Hx:=dP.1;have t6:=dP.2;rw [Uk,TO,Hw] at t6;have ou:rg<w.heap.size/\rg≠m:=HI.set rg Hx;have bM:r<200:=HI.out.low r (by rw [dU];simp);have fh:OZ S w W1:=λx hx=>HX.kx.block x (HI.set x hx).1 (HI.set x hx).2;have iP:=(fh.cell (p:=⟨rg,ro,none⟩) Hx).trans t6;have dK:=HI.num;have CI:=vn1 (w:=W1) cv cols w.heap.size rg ro rows.length rc r (HI.hcols.on fh) b0 iP cH bM (by omega);have eD:(0:Int)<(rows.length:Int):=by omega
 have EA:¬((rows.length:Int)=0):=by omega
 have t7:=P4 fh;clear dP t6 ou fh;cases hfi:cols.findIdx? (Rx r) with
 | none=>
  rw [hfi] at CI;simp only [WK] at CI
  go_upto_region 7 with (first | (go_at_call 53;(with_reducible refine Pe CI ?_);rintro e' w2 ⟨rfl,q,rfl⟩))
  obtain ⟨U,hU,aG,bj,c9,aP⟩:=Hv.out q (.int .i64 2) (.int .i64 r) (.slice none 0 0) (.slice none 0 0) (.slice none 0 0);have HU:=Ro bj c9 aP;clear bj c9 aP;go_wp2;rw [<-hU];have u0:=P5 aG (i:=0) rfl;have u1:=P5 aG (i:=1) rfl;have u2:=P5 aG (i:=2) rfl;have u3:=P5 aG (i:=3) rfl;have u4:=P5 aG (i:=4) rfl;refine Qv (v:= .agg #[.int .i64 2,.int .i64 r,.slice none 0 0,.slice none 0 0,.slice none 0 0]) (by simp [results,Tryz.results29,go_sem,u0,u1,u2,u3,u4]) rfl ?_;have hE:=HU.out;have hn:=HN.out;have e:=V9 k fs f n cols r bO hn hfi;rw [<-dU] at e;exact Gc (x:= .agg #[.int .i64 2,.int .i64 r,.slice none 0 0,.slice none 0 0,.slice none 0 0]) HX.out zZ.out (Kx.refl _ _) hE.1 hE.2.1 hE.2.2 (by rw [e];exact HX.out.mblk) ⟨λh=>by omega,λh=>by rw [e];show n+1<=_;omega⟩ (by rw [e];exact ⟨none,0,none,0,none,0,rfl,.inl ⟨rfl,_,_,rfl⟩,.inl ⟨rfl,_,_,rfl⟩,.inl ⟨rfl,_,_,rfl⟩⟩) (OE _ _ _ _ _ _)
 | some ax=>
  have bl3:=SP.1 hfi;obtain ⟨ha,rm,-⟩:=bl3;have am:PK cols[ax].2.2 rows≠[]:=λe=>by
   unfold Rx at rm;rw [UG] at rm;obtain ⟨s,hs,hs2⟩:=rm;have:s∈PK cols[ax].2.2 rows:=by
    unfold PK;rw [Sq];refine ⟨hs,?_⟩;have:s.1=r:=by simpa using hs2
    rw [this,dU];simp
   rw [e] at this;simp at this
  have CB:∀q,Calls Tryz.prog 55 #[.pointer (some ⟨m,0,none⟩),cv,.int .i64 ax,.slice (some ⟨rg,ro,none⟩) rows.length rc] (W1.drewN q) λr w'=>∃x0 x1 pa pl pc ca cl cc ea el ec,r= .returned (.agg #[.int .i64 x0,.int .i64 x1,.slice pa pl pc,.slice ca cl cc,.slice ea el ec])/\Hid (Kx m W1 w'/\w'.heap[m]? =some (.cells #[.slice fa fs.length fc,.map (some b),.int .i64 (Ps k fs (f+1) n cols rows).2] 76 (0,0))/\(Ps k fs (f+1) n cols rows).2<=5001+201*(f+1)/\PL w' (λy=>W1.heap.size<=y/\y<w'.heap.size) (f+1) (.agg #[.int .i64 x0,.int .i64 x1,.slice pa pl pc,.slice ca cl cc,.slice ea el ec]) (Ps k fs (f+1) n cols rows).1/\TN w' W1.heap.size w'.heap.size (f+1) (.agg #[.int .i64 x0,.int .i64 x1,.slice pa pl pc,.slice ca cl cc,.slice ea el ec])):=λq=>by
   have hI:=HI.out;have hn:=HN.out;have qL:OZ S w (W1.drewN q):=t7.out;have e:=Vz k fs f n cols r bO ax ha hn hfi;rw [<-dU] at e;refine (vr1 hK hT (n:=n+1) (S:=S) (w:=W1.drewN q) ⟨by omega,HX.mblk,λx hx=>⟨PQ (hI.set x hx).1 HX.kx.size,(hI.set x hx).2⟩,hI.map.on (HX.kx.block b (Mv.lt hI.map) hI.mapne),hI.mapne,hI.fams.on qL,hI.hcols.on qL,hI.hrows.on qL,λc hc=>(hI.good c hc).up (by omega),by have:=hI.num;omega,hI.rise,hI.low⟩ ax ha am).mono λr w' h=> ?_;obtain ⟨e1,e2,e3,x,rfl,e4,e5⟩:=h;rw [<-e] at e2 e3 e4;obtain ⟨x0,x1,pa,pl,pc,ca,cl,cc',ea,el,ec,rfl⟩:=e4.parts;exact ⟨x0,x1,pa,pl,pc,ca,cl,cc',ea,el,ec,rfl,⟨e1.os,e1.tape,e1.output,e1.size,e1.block⟩,e2,e3,e4,e5⟩
  rw [hfi] at CI;simp only [WK] at CI;have i1:((ax:Int)<0)=False:=by simp
  have fD:=P4 dU;have ag3:=P4 ha;clear dU hfi rm am Hw ha;have sZ:=P4 CB;clear CB
  go_upto_region 7 with (first | (go_at_call 53;(with_reducible refine Pe CI ?_);rintro e' w2 ⟨rfl,q,rfl⟩))
  go_upto_region 9 with fail
  have CB:=sZ.out;have cl4:=CB q;clear CB CI;have HRS:=P4 HX.res;clear s0 s1 s2 s3 s4 z0 z1 z2 z3 z4 ib Hv
  go_wp2_with (first | (go_at_call 55;(with_reducible refine Pe cl4 ?_);rintro e' w3 ⟨x0,x1,pa,pl,pc,ca,cl,cc',ea,el,ec,rfl,HB3⟩;have oA:=(HB3.1.block (w.heap.size+1) (by have:=HX.size;omega) (by have:=zZ.out;omega)).trans HRS.out;have s0:=P5 oA (i:=0) rfl;have s1:=P5 oA (i:=1) rfl;have s2:=P5 oA (i:=2) rfl;have s3:=P5 oA (i:=3) rfl;have s4:=P5 oA (i:=4) rfl;have z0:=Pp (o:=0) oA;have z1:=Pp (o:=1) oA;have z2:=Pp (o:=2) oA;have z3:=Pp (o:=3) oA;have z4:=Pp (o:=4) oA))
  obtain ⟨U,hU,aG,bj,c9,aP⟩:=Ud oA (.int .i64 x0) (.int .i64 x1) (.slice pa pl pc) (.slice ca cl cc') (.slice ea el ec);rw [<-hU];have u0:=P5 aG (i:=0) rfl;have u1:=P5 aG (i:=1) rfl;have u2:=P5 aG (i:=2) rfl;have u3:=P5 aG (i:=3) rfl;have u4:=P5 aG (i:=4) rfl;refine Qv (v:= .agg #[.int .i64 x0,.int .i64 x1,.slice pa pl pc,.slice ca cl cc',.slice ea el ec]) (by simp [results,Tryz.results29,go_sem,u0,u1,u2,u3,u4]) rfl ?_;have hn:=HN.out;have h3:=HB3.out;exact Gc HX.out zZ.out h3.1 bj c9 aP h3.2.1 ⟨λh=>by omega,λ_=>h3.2.2.1⟩ h3.2.2.2.1 h3.2.2.2.2
theorem rg0 {k:Kn}{fs:List Pu}{fa:Option Addr}{fc b m:Nat}(hK:KnOk k fs):∀f,Tl k fs fa fc b m f
 | 0=>LV hK λ_ h=>by omega
 | f+1=>LV hK λf' h=>by
  obtain rfl:f'=f:=by omega
  exact rg0 hK f'
end
section
variable {w:World}{S:Nat->Prop}
theorem KL {α:Type}(p:α->Bool)(l:List α):l.any p=decide (0<=WK (l.findIdx? p)):=by
 cases h:l.findIdx? p with
 | none=>
  rw [YY] at h;have:l.any p=false:=by rw [OQ];intro x hx;simp [h x hx]
  rw [this]
  rfl
 | some i=>
  obtain ⟨hi,hp,_⟩:=SP.1 h;have:l.any p=true:=UG.2 ⟨_,Px hi,hp⟩;rw [this];simp [WK]
theorem X6 (p:List Pt->Bool)(rv:Value)(rows:List (List Pt))(hR:RH w S rv rows)(hS:∀b,S b->b<w.heap.size)(hl:rows.length<=200)(hC:∀wr,Below w.heap.size w wr->∀i (h:i<rows.length) ad cap,Pl wr S (.slice ad rows[i].length cap) rows[i]->Calls Tryz.prog 50 #[.slice ad rows[i].length cap] wr λr w'=>r= .returned (.bool (p rows[i]))/\Below wr.heap.size wr w'):
  Calls Tryz.prog 67 #[rv,.func (.func 50) #[] #[]] w λe w'=>e= .returned (.int .i64 (WK (rows.findIdx? p)))/\Below w.heap.size w w':=by
 obtain ⟨ad,cc,rfl,au⟩:=Pd.open hR;have HR:=P4 au;have HS:=P4 hS;have HC:=P4 hC;have HF:Hid (∀i (h:i<rows.length),(∀j,j<i->∀(hj:j<rows.length),p rows[j]=false)->p rows[i]=true->rows.findIdx? p=some i):=λi h h1 h2=>by
  rw [SP];exact ⟨h,h2,λj hj=>by simpa using h1 j hj (by omega)⟩
 have HN:Hid ((∀j (hj:j<rows.length),p rows[j]=false)->rows.findIdx? p=none):=λh=>by
  rw [YY];intro x hx;obtain ⟨j,hj,rfl⟩:=RO hx;exact h j hj
 clear hR au hS hC;go_enter Tryz.func67,Tryz.ntmps67;go_wp2
 go_loopw [8] (λiv wr=>∃i:Nat,i<=rows.length/\iv= .int .i64 i/\Hid (Below w.heap.size w wr)/\Hid (∀j,j<i->∀(hj:j<rows.length),p rows[j]=false)) (λiv _=>rows.length-(intOf iv).toNat)
 case atStart=>exact ⟨0,by omega,by go_num,Pb _ _,λj h=>by omega⟩
 obtain ⟨i,hi,rfl,HB,HJ⟩:=hrel;by_cases ag:i<rows.length
 ·obtain ⟨gg,oo,rfl,hcc,hj⟩:=HR.out (λe=>by rw [e] at ag;simp at ag);obtain ⟨s0,pd,pc,q0,hp⟩:=hj i ag;rw [R4] at q0;have hk:=OZ.of HB.out HS.out;have q0:=(hk.cell (p:=⟨gg,oo+i,none⟩) s0).trans q0;have CH:=HC.out wr HB.out i ag pd pc (hp.on hk);have i1:(0:Int)<=(i:Int):=by omega
  have i2:(i:Int)<(rows.length:Int):=by omega
  have HT:=P4 (HF.out i ag HJ.out);have HE:Hid (p rows[i]=false->∀j,j<i+1->∀(hj:j<rows.length),p rows[j]=false):=λh j hj cO=>by
   by_cases e:j=i
   ·subst e;exact h
   exact HJ.out j (by omega) cO
  clear hj hp hk;generalize p rows[i]=R at *
  generalize rows[i].length=rl at *
  cases R with
  | true=>
   have en:Hid (rows.findIdx? p=some i):=HT.out rfl
   go_wp2_with (go_at_call 50;(with_reducible refine Pe CH ?_);rintro e' w1 ⟨rfl,hb1⟩)
   go_ret;exact ⟨by rw [en.out];rfl,HB.out.trans (hb1.mono HB.out.size)⟩
  | false=>
   have iS:Hid (∀j,j<i+1->∀(hj:j<rows.length),p rows[j]=false):=HE.out rfl
   go_wp2_with (go_at_call 50;(with_reducible refine Pe CH ?_);rintro e' w1 ⟨rfl,hb1⟩)
   go_roundw
   case rel=>exact ⟨i+1,ag,by go_num,HB.trans (hb1.mono HB.size),iS.out⟩
   case measure=>simp [intOf];omega
 have en:Hid (rows.findIdx? p=none):=HN.out (λj hj=>HJ.out j (by omega) hj);go_wp2;go_ret;exact ⟨by rw [en.out];rfl,HB.out⟩
theorem Xj (p:List Pt->Bool)(rv:Value)(rows:List (List Pt))(hR:RH w S rv rows)(hS:∀b,S b->b<w.heap.size)(hl:rows.length<=200)(hC:∀wr,Below w.heap.size w wr->∀i (h:i<rows.length) ad cap,Pl wr S (.slice ad rows[i].length cap) rows[i]->Calls Tryz.prog 50 #[.slice ad rows[i].length cap] wr λr w'=>r= .returned (.bool (p rows[i]))/\Below wr.heap.size wr w'):
  Calls Tryz.prog 49 #[rv,.func (.func 50) #[] #[]] w λe w'=>e= .returned (.bool (rows.any p))/\Below w.heap.size w w':=by
 have CI:=X6 p rv rows hR hS hl hC;have HE:=P4 (KL p rows);clear hR hS hC;generalize WK (rows.findIdx? p)=ix at *
 go_enter Tryz.func49,Tryz.ntmps49
 go_wp2_with (go_at_call 67;(with_reducible refine Pe CI ?_);rintro e' w1 ⟨rfl,hb1⟩)
 go_ret;refine ⟨?_,hb1⟩;rw [HE.out]
 rfl
theorem Xy (p:List Pt->Bool)(rv:Value)(rows:List (List Pt))(hR:RH w S rv rows)(hS:∀b,S b->b<w.heap.size)(hl:rows.length<=200)(hC:∀wr,Below w.heap.size w wr->∀i (h:i<rows.length) ad cap,Pl wr S (.slice ad rows[i].length cap) rows[i]->Calls Tryz.prog 56 #[.slice ad rows[i].length cap] wr λr w'=>r= .returned (.bool (p rows[i]))/\Below wr.heap.size wr w'):
  Calls Tryz.prog 67 #[rv,.func (.func 56) #[] #[]] w λe w'=>e= .returned (.int .i64 (WK (rows.findIdx? p)))/\Below w.heap.size w w':=by
 obtain ⟨ad,cc,rfl,au⟩:=Pd.open hR;have HR:=P4 au;have HS:=P4 hS;have HC:=P4 hC;have HF:Hid (∀i (h:i<rows.length),(∀j,j<i->∀(hj:j<rows.length),p rows[j]=false)->p rows[i]=true->rows.findIdx? p=some i):=λi h h1 h2=>by
  rw [SP];exact ⟨h,h2,λj hj=>by simpa using h1 j hj (by omega)⟩
 have HN:Hid ((∀j (hj:j<rows.length),p rows[j]=false)->rows.findIdx? p=none):=λh=>by
  rw [YY];intro x hx;obtain ⟨j,hj,rfl⟩:=RO hx;exact h j hj
 clear hR au hS hC;go_enter Tryz.func67,Tryz.ntmps67;go_wp2
 go_loopw [8] (λiv wr=>∃i:Nat,i<=rows.length/\iv= .int .i64 i/\Hid (Below w.heap.size w wr)/\Hid (∀j,j<i->∀(hj:j<rows.length),p rows[j]=false)) (λiv _=>rows.length-(intOf iv).toNat)
 case atStart=>exact ⟨0,by omega,by go_num,Pb _ _,λj h=>by omega⟩
 obtain ⟨i,hi,rfl,HB,HJ⟩:=hrel;by_cases ag:i<rows.length
 ·obtain ⟨gg,oo,rfl,hcc,hj⟩:=HR.out (λe=>by rw [e] at ag;simp at ag);obtain ⟨s0,pd,pc,q0,hp⟩:=hj i ag;rw [R4] at q0;have hk:=OZ.of HB.out HS.out;have q0:=(hk.cell (p:=⟨gg,oo+i,none⟩) s0).trans q0;have CH:=HC.out wr HB.out i ag pd pc (hp.on hk);have i1:(0:Int)<=(i:Int):=by omega
  have i2:(i:Int)<(rows.length:Int):=by omega
  have HT:=P4 (HF.out i ag HJ.out);have HE:Hid (p rows[i]=false->∀j,j<i+1->∀(hj:j<rows.length),p rows[j]=false):=λh j hj cO=>by
   by_cases e:j=i
   ·subst e;exact h
   exact HJ.out j (by omega) cO
  clear hj hp hk;generalize p rows[i]=R at *
  generalize rows[i].length=rl at *
  cases R with
  | true=>
   have en:Hid (rows.findIdx? p=some i):=HT.out rfl
   go_wp2_with (go_at_call 56;(with_reducible refine Pe CH ?_);rintro e' w1 ⟨rfl,hb1⟩)
   go_ret;exact ⟨by rw [en.out];rfl,HB.out.trans (hb1.mono HB.out.size)⟩
  | false=>
   have iS:Hid (∀j,j<i+1->∀(hj:j<rows.length),p rows[j]=false):=HE.out rfl
   go_wp2_with (go_at_call 56;(with_reducible refine Pe CH ?_);rintro e' w1 ⟨rfl,hb1⟩)
   go_roundw
   case rel=>exact ⟨i+1,ag,by go_num,HB.trans (hb1.mono HB.size),iS.out⟩
   case measure=>simp [intOf];omega
 have en:Hid (rows.findIdx? p=none):=HN.out (λj hj=>HJ.out j (by omega) hj);go_wp2;go_ret;exact ⟨by rw [en.out];rfl,HB.out⟩
theorem XX (p:List Pt->Bool)(rv:Value)(rows:List (List Pt))(hR:RH w S rv rows)(hS:∀b,S b->b<w.heap.size)(hl:rows.length<=200)(hC:∀wr,Below w.heap.size w wr->∀i (h:i<rows.length) ad cap,Pl wr S (.slice ad rows[i].length cap) rows[i]->Calls Tryz.prog 56 #[.slice ad rows[i].length cap] wr λr w'=>r= .returned (.bool (p rows[i]))/\Below wr.heap.size wr w'):
  Calls Tryz.prog 49 #[rv,.func (.func 56) #[] #[]] w λe w'=>e= .returned (.bool (rows.any p))/\Below w.heap.size w w':=by
 have CI:=Xy p rv rows hR hS hl hC;have HE:=P4 (KL p rows);clear hR hS hC;generalize WK (rows.findIdx? p)=ix at *
 go_enter Tryz.func49,Tryz.ntmps49
 go_wp2_with (go_at_call 67;(with_reducible refine Pe CI ?_);rintro e' w1 ⟨rfl,hb1⟩)
 go_ret;refine ⟨?_,hb1⟩;rw [HE.out]
 rfl
theorem VD (w:World)(ad:Option Addr)(n cap:Nat):Calls Tryz.prog 50 #[.slice ad n cap] w λr w'=>r= .returned (.bool (decide (16<n)))/\Below w.heap.size w w':=by
 by_cases h:16<n
 ·have h1:(16:Int)<(n:Int):=by omega
  go_enter Tryz.func50,Tryz.ntmps50;go_wp2;go_ret;exact ⟨by simp [h],Pb _ _⟩
 have h1:¬(16:Int)<(n:Int):=by omega
 go_enter Tryz.func50,Tryz.ntmps50;go_wp2;go_ret;exact ⟨by simp,Pb _ _⟩
def Rh (rows:List (List Pt)):Bool:=decide (200<rows.length) || rows.any λr=>decide (16<r.length)
theorem VC (rv:Value)(rows:List (List Pt))(hR:RH w S rv rows)(hS:∀b,S b->b<w.heap.size):Calls Tryz.prog 26 #[rv] w λe w'=>e= .returned (.bool (Rh rows))/\Below w.heap.size w w':=by
 unfold Rh;obtain ⟨ad,cap,hv⟩:=hR.len;by_cases h:200<rows.length
 ·subst hv;have h1:(200:Int)<(rows.length:Int):=by omega
  have HE:Hid ((decide (200<rows.length) || rows.any λr=>decide (16<r.length))=true):=by simp [Hid,h]
  clear hR h;go_enter Tryz.func26,Tryz.ntmps26;go_wp2;go_ret;exact ⟨by rw [HE.out];rfl,Pb _ _⟩
 have CH:=Xj (w:=w) (λr=>decide (16<r.length)) rv rows hR hS (by omega) (λwr _ i h ad cap _=>VD wr ad _ cap);subst hv;have h1:¬(200:Int)<(rows.length:Int):=by omega
 have HE:Hid ((decide (200<rows.length) || rows.any λr=>decide (16<r.length))=rows.any λr=>decide (16<r.length)):=by
  show _=_;rw [Ti h,Np]
 clear hR h;generalize (rows.any λr=>decide (16<r.length))=R at *
 go_enter Tryz.func26,Tryz.ntmps26
 go_wp2_with (go_at_call 49;(with_reducible refine Pe CH ?_);rintro e' w1 ⟨rfl,hb1⟩)
 go_ret;exact ⟨by rw [HE.out];rfl,hb1⟩
end
section
variable {w:World}{S:Nat->Prop}{l:Nat}
theorem EI (p:Pt->Bool)(Lb:Nat)(rv:Value)(rows:List Pt)(hR:Pl w S rv rows)(hS:∀b,S b->b<w.heap.size)(hl:rows.length<140737488355328)(hC:∀wr,Below w.heap.size w wr->∀i (h:i<rows.length) ad cap,Pl wr S (.slice ad rows[i].kids.length cap) rows[i].kids->rows[i].kids.length<140737488355328->Calls Tryz.prog 80 #[.agg #[.int .i64 rows[i].kind,.string ⟨rows[i].name.toArray⟩,.int .i64 rows[i].num,.slice ad rows[i].kids.length cap],.pointer (some ⟨Lb,0,none⟩)] wr λr w'=>r= .returned (.bool (p rows[i]))/\Below wr.heap.size wr w'):
  Calls Tryz.prog 97 #[rv,.func (.func 80) #[] #[.pointer (some ⟨Lb,0,none⟩)]] w λe w'=>e= .returned (.int .i64 (WK (rows.findIdx? p)))/\Below w.heap.size w w':=by
 obtain ⟨ad,cc,rfl,au⟩:=Pd.open hR;have HR:=P4 au;have HS:=P4 hS;have HC:=P4 hC;have HF:Hid (∀i (h:i<rows.length),(∀j,j<i->∀(hj:j<rows.length),p rows[j]=false)->p rows[i]=true->rows.findIdx? p=some i):=λi h h1 h2=>by
  rw [SP];exact ⟨h,h2,λj hj=>by simpa using h1 j hj (by omega)⟩
 have HN:Hid ((∀j (hj:j<rows.length),p rows[j]=false)->rows.findIdx? p=none):=λh=>by
  rw [YY];intro x hx;obtain ⟨j,hj,rfl⟩:=RO hx;exact h j hj
 clear hR au hS hC;go_enter Tryz.func97,Tryz.ntmps97;go_wp2
 go_loopw [8] (λiv wr=>∃i:Nat,i<=rows.length/\iv= .int .i64 i/\Hid (Below w.heap.size w wr)/\Hid (∀j,j<i->∀(hj:j<rows.length),p rows[j]=false)) (λiv _=>rows.length-(intOf iv).toNat)
 case atStart=>exact ⟨0,by omega,by go_num,Pb _ _,λj h=>by omega⟩
 obtain ⟨i,hi,rfl,HB,HJ⟩:=hrel;by_cases ag:i<rows.length
 ·obtain ⟨gg,oo,rfl,hcc,hj⟩:=HR.out (λe=>by rw [e] at ag;simp at ag);have hk:=OZ.of HB.out HS.out;obtain ⟨s0,q0,q1,q2,_,eZ,pd,pc,q3,hp⟩:=((hj i ag).on hk).open;have CH:=HC.out wr HB.out i ag pd pc hp eZ;have i1:(0:Int)<=(i:Int):=by omega
  have i2:(i:Int)<(rows.length:Int):=by omega
  have HT:=P4 (HF.out i ag HJ.out);have HE:Hid (p rows[i]=false->∀j,j<i+1->∀(hj:j<rows.length),p rows[j]=false):=λh j hj cO=>by
   by_cases e:j=i
   ·subst e;exact h
   exact HJ.out j (by omega) cO
  clear hj hp hk eZ;generalize p rows[i]=R at *
  generalize rows[i].kids.length=rl at *
  generalize rows[i].kind=k0 at *
  generalize rows[i].name=k1 at *
  generalize rows[i].num=k2 at *
  cases R with
  | true=>
   have en:Hid (rows.findIdx? p=some i):=HT.out rfl
   go_wp2_with (go_at_call 80;(with_reducible refine Pe CH ?_);rintro e' w1 ⟨rfl,hb1⟩)
   go_ret;exact ⟨by rw [en.out];rfl,HB.out.trans (hb1.mono HB.out.size)⟩
  | false=>
   have iS:Hid (∀j,j<i+1->∀(hj:j<rows.length),p rows[j]=false):=HE.out rfl
   go_wp2_with (go_at_call 80;(with_reducible refine Pe CH ?_);rintro e' w1 ⟨rfl,hb1⟩)
   go_roundw
   case rel=>exact ⟨i+1,ag,by go_num,HB.trans (hb1.mono HB.size),iS.out⟩
   case measure=>simp [intOf];omega
 have en:Hid (rows.findIdx? p=none):=HN.out (λj hj=>HJ.out j (by omega) hj);go_wp2;go_ret;exact ⟨by rw [en.out];rfl,HB.out⟩
def ML (l:Nat):Prop:=∀(w:World) (S:Nat->Prop) (v:Value) (pats:List Pt),Pl w S v pats->(∀b,S b->b<w.heap.size)->pats.length<140737488355328->Calls Tryz.prog 57 #[v,.int .i64 l] w λr w'=>r= .returned (.bool (pats.any (QL l)))/\Below w.heap.size w w'
theorem VH (hl:l<=1000)(hA:∀l',l=l'+1->ML l'){w:World}{S:Nat->Prop}(hS:∀b,S b->b<w.heap.size)(Lb:Nat)(p:Pt)(ad:Option Addr)(cap:Nat)(hLb:Lb<w.heap.size)(hc:w.cell? ⟨Lb,0,none⟩=some (.int .i64 l))(hp:Pl w S (.slice ad p.kids.length cap) p.kids)(hk:p.kids.length<140737488355328):
  Calls Tryz.prog 80 #[.agg #[.int .i64 p.kind,.string ⟨p.name.toArray⟩,.int .i64 p.num,.slice ad p.kids.length cap],.pointer (some ⟨Lb,0,none⟩)] w λr w'=>r= .returned (.bool (QL l p))/\Below w.heap.size w w':=by
 have hW:∃W,W=w.alloc (Obj.cells #[.int .i64 p.kind,.string ⟨p.name.toArray⟩,.int .i64 p.num,.slice ad p.kids.length cap] 50)/\Below w.heap.size w W/\W.heap.size=w.heap.size+1/\W.cell? ⟨w.heap.size,0,none⟩=some (.int .i64 p.kind)/\W.cell? ⟨w.heap.size,3,none⟩=some (.slice ad p.kids.length cap):=⟨_,rfl,(Pb _ _).alloc (P6 _) _,by simp,P0 (Qn w _) rfl,P0 (Qn w _) rfl⟩;obtain ⟨W,hW,an,aO,d0,d3⟩:=hW;have hc:=(an.cell (p:=⟨Lb,0,none⟩) hLb).trans hc;have HB:=P4 an;cases l with
 | zero=>
  clear an aO hp;have HE:Hid (QL 0 p=true):=rfl;generalize QL 0 p=R at *
  generalize p.kids.length=kl at *
  generalize p.kind=k0 at *
  generalize p.name=k1 at *
  generalize p.num=k2 at *
  go_enter Tryz.func80,Tryz.ntmps80
  go_upto_region 1 with fail
  rw [<-hW];clear hW;go_wp2;go_ret;exact ⟨by rw [HE.out];rfl,HB.out⟩
 | succ l=>
  have CA:=hA l rfl W S _ _ (hp.on (OZ.of an hS)) (λb hb=>by have:=hS b hb;omega) hk;have HE:Hid (QL (l+1) p=(p.kind==4 && p.kids.any (QL l))):=rfl;generalize QL (l+1) p=R at *
  have e0:(((l:Int)+1)==0)=false:=by
   rw [Y2];omega
  have hc:W.cell? ⟨Lb,0,none⟩=some (.int .i64 ((l:Int)+1)):=hc;have eD:(((l:Int)+1)-1)=(l:Int):=by omega
  clear an aO hp;generalize p.kids.any (QL l)=R2 at *
  generalize p.kids.length=kl at *
  generalize p.name=k1 at *
  generalize p.num=k2 at *
  by_cases h4:p.kind=4
  ·have iS:Hid (R=R2):=by
    show _=_;have:=HE.out;rw [h4] at this;simpa using this
   clear HE;generalize p.kind=k0 at *
   subst h4;go_enter Tryz.func80,Tryz.ntmps80
   go_upto_region 1 with fail
   rw [<-hW];clear hW
   go_wp2_with (go_at_call 57;(with_reducible refine Pe CA ?_);rintro e' w1 ⟨rfl,hb1⟩)
   go_ret;exact ⟨by rw [iS.out];rfl,HB.out.trans (hb1.mono HB.out.size)⟩
  have iS:Hid (R=false):=by
   show _=_;have:=HE.out;rw [show (p.kind==4)=false by simpa using h4] at this;simpa using this
  clear HE;have e4:(p.kind==4)=false:=by simpa using h4
  generalize p.kind=k0 at *
  go_enter Tryz.func80,Tryz.ntmps80
  go_upto_region 1 with fail
  rw [<-hW];clear hW;go_wp2;go_ret;exact ⟨by rw [iS.out];simp,HB.out⟩
theorem LT (Lb:Nat)(rv:Value)(R:Bool)(ix:Int)(hE:R=decide (0<=ix))(CI:Calls Tryz.prog 97 #[rv,.func (.func 80) #[] #[.pointer (some ⟨Lb,0,none⟩)]] w λe w'=>e= .returned (.int .i64 ix)/\Below w.heap.size w w'):Calls Tryz.prog 79 #[rv,.func (.func 80) #[] #[.pointer (some ⟨Lb,0,none⟩)]] w λe w'=>e= .returned (.bool R)/\Below w.heap.size w w':=by
 have HE:=P4 hE;clear hE;go_enter Tryz.func79,Tryz.ntmps79
 go_wp2_with (go_at_call 97;(with_reducible refine Pe CI ?_);rintro e' w1 ⟨rfl,hb1⟩)
 go_ret;refine ⟨?_,hb1⟩;rw [HE.out]
 rfl
theorem KI (hl:l<=1000)(hA:∀l',l=l'+1->ML l'):ML l:=by
 intro w S v pats hp hS aA;obtain ⟨ad,cap,hv⟩:=hp.len;have hW:∃W,W=w.alloc (Obj.cells #[.int .i64 l] 3)/\Below w.heap.size w W/\W.heap.size=w.heap.size+1/\W.cell? ⟨w.heap.size,0,none⟩=some (.int .i64 l):=⟨_,rfl,(Pb _ _).alloc (P6 _) _,by simp,P0 (Qn w _) rfl⟩;obtain ⟨W,hW,an,aO,d0⟩:=hW;have uG:∀b,S b->b<W.heap.size:=λb hb=>by have:=hS b hb;omega
 have CI:=LT w.heap.size v (pats.any (QL l)) _ (KL _ _) (EI (w:=W) (QL l) w.heap.size v pats (hp.on (OZ.of an hS)) uG aA (λwr nQ i h ad cap A0 hk=>VH hl hA (λb hb=>PQ (uG b hb) nQ.size) w.heap.size _ ad cap (by have:=nQ.size;omega) ((nQ.cell (p:=⟨w.heap.size,0,none⟩) (by show w.heap.size<_;omega)).trans d0) A0 hk));have HB:=P4 an;subst hv;clear hp an aO uG d0;generalize pats.any (QL l)=R at *
 generalize pats.length=n at *
 go_enter Tryz.func57,Tryz.ntmps57
 go_upto_region 1 with fail
 rw [<-hW];clear hW
 go_wp2_with (go_at_call 79;(with_reducible refine Pe CI ?_);rintro e' w1 ⟨rfl,hb1⟩)
 go_ret;exact ⟨rfl,HB.trans (hb1.mono HB.size)⟩
theorem rk0:∀l,l<=1000->ML l
 | 0,h=>KI h λ_ e=>by omega
 | l+1,h=>KI h λl' e=>by
  obtain rfl:l'=l:=by omega
  exact rk0 l' (by omega)
theorem VN (rv:Value)(rows:List (List Pt))(hR:RH w S rv rows)(hS:∀b,S b->b<w.heap.size)(hl:rows.length<=200)(cj:∀r∈rows,r.length<=16):Calls Tryz.prog 32 #[rv] w λe w'=>e= .returned (.bool (RU rows))/\Below w.heap.size w w':=by
 have CH:=XX (w:=w) (λr=>r.any (QL 1000)) rv rows hR hS hl (λwr hb i h ad cap hp=>by
  have CA:=rk0 1000 (by omega) wr S _ _ hp (λb hb2=>PQ (hS b hb2) hb.size) (by have:=cj _ (Px h);omega);generalize rows[i].any (QL 1000)=R at *
  generalize rows[i].length=n at *
  go_enter Tryz.func56,Tryz.ntmps56
  go_wp2_with (go_at_call 57;(with_reducible refine Pe CA ?_);rintro e' w1 ⟨rfl,hb1⟩)
  go_ret;exact ⟨rfl,hb1⟩)
 unfold RU;obtain ⟨ad,cap,hv⟩:=hR.len;subst hv;clear hR;generalize (rows.any λr=>r.any (QL 1000))=R at *
 generalize rows.length=n at *
 go_enter Tryz.func32,Tryz.ntmps32
 go_wp2_with (go_at_call 49;(with_reducible refine Pe CH ?_);rintro e' w1 ⟨rfl,hb1⟩)
 go_ret;exact ⟨rfl,hb1⟩
end
theorem vs1 (w:World)(n:Nat)(hn:n<=1000):∃c,(Instr.makeSlice 26 (.int .i64 n) (.int .i64 n)).run Tryz.prog w= .ok (.slice (some ⟨w.heap.size,0,none⟩) n n) (w.alloc (.cells c 3))/\c.size=n:=by
 obtain ⟨i0,hi,c8,bK,bJ⟩:=info_parts Tryz.info3;have:=Y6 (P:=Tryz.prog) w 26 3 i0 _ Tryz.underlying26 hi c8 .i64 .i64 n n (by omega) (Yp _) (by rw [bK];simp;omega) (by rw [bJ];omega) (by omega);refine ⟨_,by simpa using this,?_⟩;simp [madeCells,bK]
structure Nw (n Lb:Nat)(W:World)(i:Nat)(cur:Array Value)(wr:World):Prop where
 below:Below Lb W wr
 blk:wr.heap[Lb]? =some (.cells cur 3 (0,0))
 size:cur.size=n
 row:∀j,j<i->j<n->cur[j]? =some (.int .i64 j)
theorem Nw.put {n Lb:Nat}{W:World}{i:Nat}{cur:Array Value}{wr:World}(h:Nw n Lb W i cur wr)(hi:i<n):Nw n Lb W (i+1) (cur.setIfInBounds i (.int .i64 i)) (wr.setCell ⟨Lb,i,none⟩ (.int .i64 i)):=by
 refine ⟨h.below.setCell (p:=⟨Lb,i,none⟩) (P6 _) _,Q5 h.blk,by simpa using h.size,λj hj hn=> ?_⟩;have hs:=h.size;by_cases e:j=i
 ·subst e;rw [Q9,Pc rfl,Pc (by omega)]
 rw [Q9,P7 (by omega)];exact h.row j (by omega) hn
theorem vt1 {w:World}(ad:Option Addr)(n cap:Nat)(hn:n<=200):Calls Tryz.prog 30 #[.slice ad n cap] w λr w'=>Below w.heap.size w w'/\∃v,r= .returned v/\Pv w' (λb=>w.heap.size<=b/\b<w'.heap.size) v (List.range n):=by
 obtain ⟨c0,fp,hc0⟩:=vs1 w n (by omega);have HX:Hid (Nw n w.heap.size (w.alloc (.cells c0 3)) 0 c0 (w.alloc (.cells c0 3))):=⟨Pb _ _,PF w _,hc0,λj h=>by omega⟩;have jd:Hid (Below w.heap.size w (w.alloc (.cells c0 3))):=(Pb w.heap.size w).alloc (P6 _) _;generalize eM:w.alloc (.cells c0 3)=W2 at *
 clear eM hc0;go_enter Tryz.func30,Tryz.ntmps30;go_wp2
 go_loopw [10] (λiv wr=>∃(i:Nat) (cur:Array Value),i<=n/\iv= .int .i64 i/\Hid (Nw n w.heap.size W2 i cur wr)) (λiv _=>n-(intOf iv).toNat)
 case atStart=>exact ⟨0,c0,by omega,by go_num,HX.out⟩
 obtain ⟨i,cur,hi,rfl,HT⟩:=hrel;by_cases ag:i<n
 ·have i1:(0:Int)<=(i:Int):=by omega
  have i2:(i:Int)<(n:Int):=by omega
  have aT:=HT.size;have y0:=P5 HT.blk (Rm (show i<cur.size by omega));have z0:=Pp (o:=i) HT.blk;generalize cur[i]=Do at y0;clear aT;go_wp2
  go_roundw
  case rel=>exact ⟨i+1,_,ag,by go_num,HT.put ag⟩
  case measure=>simp [intOf];omega
 obtain rfl:i=n:=by omega
 go_wp2;go_ret;have hb:=jd.trans HT.below;refine ⟨hb,_,rfl,?_⟩;by_cases h0:i=0
 ·subst h0;exact .inl ⟨rfl,_,_,rfl⟩
 refine .inr ⟨w.heap.size,0,i,by rw [Ow];rfl,by simpa using h0,by simp,λj hj=> ?_⟩;have aJ:j<i:=by simpa using hj
 refine ⟨⟨P6 _,PV HT.blk⟩,?_⟩;rw [X2,Rp,R4];exact P5 HT.blk (HT.row j aJ aJ)
