import Derived.Test.YtpdmkhnonbbhnaaGreatMAx
import Derived.Test.YtpdmkhnonbbhnaaGreatMpx
import Derived.Test.YtpdmkhnonbbhnaaGreatMvx
namespace Go.Proofs.YtpdmkhnonbbhnaaGreat
open Go.RowKit Go.Maps
set_option maxHeartbeats 8000000
set_option maxRecDepth 10000
section
variable {N D f:Nat}{k:Kn}{fs:List Pu}
theorem Xf {w:World}{S:Nat->Prop}{s:Qj}{acc:List Qj}{v:Value}(h:SA w S s.2 v)(hw:PD N (s::acc))(h8:s.2.2<=8)(d:Nat):TP w S v (RT (s::acc) (d+1) s.1):=by
 obtain ⟨ad,cap,rfl,hn,hp⟩:=h;obtain ⟨n1,n2,n3⟩:=XQ hw d;have e1:(RT (s::acc) (d+1) s.1).kind=s.2.1.1:=by unfold Pt.kind;rw [n1]
 have e2:(RT (s::acc) (d+1) s.1).name=s.2.1.2.1:=by unfold Pt.name;rw [n1]
 have e3:(RT (s::acc) (d+1) s.1).num=s.2.1.2.2:=by unfold Pt.num;rw [n1]
 refine ⟨ad,cap,by rw [e1,e2,e3,n2],by rw [e2];exact hn,by rw [n2];omega,?_⟩;rcases hp with ⟨h0,a,c,e⟩ | ⟨g,o,c,e,h0,h1,h2⟩
 ·have:s.2.2=0:=by simpa using h0
  refine .inl ⟨Up.1 (by rw [n2];exact this),ad,cap,by rw [n2,this]⟩
 rw [Tq] at e h1;refine .inr ⟨g,o,cap,?_,λe'=>h0 ?_,?_,λj hj=> ?_⟩
 ·injection e with e4 _ e5;rw [e4]
 ·rw [List.replicate_eq_nil_iff];rw [<-n2,e']
  rfl
 ·injection e with _ _ e5;rw [e5,n2];exact h1
 have aJ:j<s.2.2:=by rw [n2] at hj;exact hj
 obtain ⟨k1,k2⟩:=n3 _ (Px hj);have:=h2 j (by simpa using aJ);rw [On] at this;obtain ⟨z0,z1,z2,z3,z4,z5,za,zc,z6,z7⟩:=this.open;have q1:(RT (s::acc) (d+1) s.1).kids[j].kind=1:=by unfold Pt.kind;rw [k1]
 have q2:(RT (s::acc) (d+1) s.1).kids[j].name=[]:=by unfold Pt.name;rw [k1]
 have q3:(RT (s::acc) (d+1) s.1).kids[j].num=0:=by unfold Pt.num;rw [k1]
 exact RN.mk (ad:=za) (cap:=zc) z0 (by rw [q1];exact z1) (by rw [q2];exact z2) (by rw [q3];exact z3) (by rw [q2];simp) (by rw [k2];simp) (by rw [k2];exact z6) (by rw [k2];exact .inl ⟨rfl,_,_,rfl⟩)
theorem N9 (D N:Nat)(ao:List Qj):(Sg D N ao).kids.length=N:=by rw [YW];simp
def MS (D N:Nat)(res:Option (List Qj))(acc:List Qj)(S:Nat->Prop)(w:World)(r:Ending)(w':World):Prop:=Below w.heap.size w w'/\((res=none/\r= .returned (.tuple #[.slice none 0 0,.bool false]))\/∃y ad cap,res=some y/\r= .returned (.tuple #[.slice ad N cap,.bool true])/\Pl w' (λz=>S z\/(w.heap.size<=z/\z<w'.heap.size)) (.slice ad N cap) (Sg D N (y++acc)).kids)
structure MisIn (k:Kn)(fs:List Pu)(D N f:Nat)(t:Tr f)(acc:List Qj)(S:Nat->Prop)(x:Value)(fa:Option Addr)(fc:Nat)(va:Option Addr)(vc:Nat)(w:World):Prop where
 set:∀y,S y->y<w.heap.size
 fams:PH w S (.slice fa fs.length fc) fs
 tree:PL w S f x t
 vec:Pl w S (.slice va N vc) (Sg D N acc).kids
 lay:SD k fs N f t acc
 ok:PD N acc
 small:∀y∈acc,y.2.2<=8
 deep:acc.length+f<=D
def Uu (k:Kn)(fs:List Pu)(D N f:Nat)(t:Tr f):Prop:=∀(acc:List Qj) (S:Nat->Prop) (x:Value) (fa:Option Addr) (fc:Nat) (va:Option Addr) (vc:Nat) (w:World),MisIn k fs D N f t acc S x fa fc va vc w->Calls Tryz.prog 48 #[.slice fa fs.length fc,x,.slice va N vc] w (MS D N (Qx k fs f t) acc S w)
theorem Fk (hN:N<=16)(hD:D<=100000){c:Tr f}(hC:Uu k fs D N f c){w V:World}{S:Nat->Prop}{acc:List Qj}{s:Qj}{fa va pa:Option Addr}{fc vc pc:Nat}{qv xc:Value}(hS:∀y,S y->y<w.heap.size)(hF:PH w S (.slice fa fs.length fc) fs)(hV:Pl w S (.slice va N vc) (Sg D N acc).kids)(hP:Pv w S (.slice pa s.1.length pc) s.1)(hx:PL w S f xc c)(oO:PD N (s::acc))(h8:∀y∈s::acc,y.2.2<=8)(hdp:acc.length+(f+1)<=D)(jy:SD k fs N f c (s::acc))(hb:Below w.heap.size w V)(hq:SA V (λy=>S y\/(w.heap.size<=y/\y<V.heap.size)) s.2 qv):
  Calls Tryz.prog 65 #[.agg #[.int .i64 0,.string ⟨#[]⟩,.int .i64 0,.slice va N vc],.slice pa s.1.length pc,qv] V λr w5=>∃ad cap,r= .returned (.agg #[.int .i64 0,.string ⟨#[]⟩,.int .i64 0,.slice ad N cap])/\Below V.heap.size V w5/\∀V6,Below w5.heap.size w5 V6->Calls Tryz.prog 48 #[.slice fa fs.length fc,xc,.slice ad N cap] V6 λr w7=>Below V6.heap.size V6 w7/\((Qx k fs f c=none/\r= .returned (.tuple #[.slice none 0 0,.bool false]))\/∃y ad' cap',Qx k fs f c=some y/\r= .returned (.tuple #[.slice ad' N cap',.bool true])/\Pl w7 (λz=>S z\/(w.heap.size<=z/\z<w7.heap.size)) (.slice ad' N cap') (Sg D N ((y++[s])++acc)).kids):=by
 have hk:=OZ.of hb hS;have lg:s.1.length<=acc.length+1:=oO.2.2.1;have iB:=Xb (D:=D) oO (λy hy=>h8 y (RI _ hy)) hN (by omega);obtain ⟨d,hd⟩:∃d,D+1-s.1.length=d+1:=⟨D-s.1.length,by omega⟩;rw [hd] at iB;have J6:∀y,(S y\/(w.heap.size<=y/\y<V.heap.size))->y<V.heap.size:=λy hy=>hy.elim (λh=>PQ (hS y h) hb.size) λh=>h.2;have cH:=N9 D N acc;have ax3:TP V (λy=>S y\/(w.heap.size<=y/\y<V.heap.size)) (.agg #[.int .i64 0,.string ⟨#[]⟩,.int .i64 0,.slice va N vc]) (Sg D N acc):=by
  refine ⟨va,vc,by rw [cH];rfl,by show 0<_;omega,by rw [cH];omega,?_⟩;rw [cH];exact (hV.on hk).up λ_ h=> .inl h
 refine (N6 s.1 (Sg D N acc) _ (Sg D N (s::acc)) iB (by omega) V _ _ _ _ J6 ax3 ((hP.on hk).up λ_ h=> .inl h) (Xf hq oO (h8 s (by simp)) d)).mono λr w5 h5=> ?_;obtain ⟨hb5,x',rfl,ad,cap,J7,_,_,J8⟩:=h5;have bl5:=N9 D N (s::acc);rw [bl5] at J7 J8;refine ⟨ad,cap,by rw [J7];rfl,hb5,λV6 hb6=> ?_⟩;have ck4:=hb5.size;have A9:=hb6.size;have hsz:=hb.size;have dN:Below w.heap.size w V6:=hb.trans ((hb5.trans (hb6.mono ck4)).mono hsz);have J9:=OZ.of dN hS;refine (hC (s::acc) (λy=>S y\/(w.heap.size<=y/\y<V6.heap.size)) xc fa fc ad cap V6 ⟨λy hy=>hy.elim (λh=>PQ (hS y h) dN.size) λh=>h.2,(hF.on J9).up λ_ h=> .inl h,PL.below J9 (λ_ h=> .inl h) f _ _ hx,?_,jy,oO,h8,by simp;omega⟩).mono λr w7 h7=> ?_
 ·refine (J8.on λy hy=>hb6.block y ?_).up λy hy=> ?_
  ·rcases hy with hy | hy
   ·have:=J6 y hy;omega
   exact hy.2
  rcases hy with (hy | hy) | hy
  ·exact .inl hy
  ·exact .inr ⟨hy.1,by omega⟩
  exact .inr ⟨by omega,by omega⟩
 obtain ⟨h1,h2 | ⟨y,ad',cap',h3,h4,h5⟩⟩:=h7
 ·exact ⟨h1,.inl h2⟩
 have:=h1.size;refine ⟨h1,.inr ⟨y,ad',cap',h3,h4,?_⟩⟩;rw [T5];exact h5.up λz hz=>by
  rcases hz with (hz | hz) | hz
  ·exact .inl hz
  ·exact .inr ⟨hz.1,by omega⟩
  exact .inr ⟨by have:=dN.size;omega,hz.2⟩
theorem KY {args:Array Value}{V:World}{res:Option (List Qj)}{P:List Qj->Option Addr->Nat->World->Prop}(h:Calls Tryz.prog 48 args V λr w7=>Below V.heap.size V w7/\((res=none/\r= .returned (.tuple #[.slice none 0 0,.bool false]))\/∃y ad' cap',res=some y/\r= .returned (.tuple #[.slice ad' N cap',.bool true])/\P y ad' cap' w7)):
  Calls Tryz.prog 48 args V λr w7=>∃oa ol oc bb,r= .returned (.tuple #[.slice oa ol oc,.bool bb])/\Below V.heap.size V w7/\Hid ((bb=false/\res=none)\/(bb=true/\ol=N/\∃y,res=some y/\P y oa oc w7)):=
 h.mono λr w7 h=>by
  obtain ⟨h1,⟨h2,h3⟩ | ⟨y,ad,cap,h2,h3,h4⟩⟩:=h
  ·exact ⟨none,0,0,false,h3,h1,.inl ⟨rfl,h2⟩⟩
  exact ⟨ad,N,cap,true,h3,h1,.inr ⟨rfl,rfl,y,h2,h4⟩⟩
theorem UM (aF:Po 0 [] fs=some k)(aY:fs.length<=10000)(hN:N<=16)(hD:D<=100000)(t:Tr (f+1))(fY:t.2.1.length<=200/\t.2.2.length<=1)(hC:∀c,(c∈t.2.1.map (·.2)\/c∈t.2.2)->Uu k fs D N f c):Uu k fs D N (f+1) t:=by
 intro acc S x fa fc va vc w h;obtain ⟨pa,pc,ca,cc,ea,ec,rfl,AQ,eP,fz⟩:=h.tree;obtain ⟨_,_,ce,aK⟩:=Pd.open eP;injection ce with ce _ ch;subst ce ch;obtain ⟨_,_,cJ,ay⟩:=Pd.open fz;injection cJ with cJ _ d9;subst cJ d9;have gH:=P4 h.set;have eO:=P4 h.fams;have rF:=P4 h.vec;have wO:Hid (PD N acc/\(∀y∈acc,y.2.2<=8)/\acc.length+(f+1)<=D):=⟨h.ok,h.small,h.deep⟩;have jn:=P4 h.tree;have lG:=P4 AQ;have ep:Hid _:=aK;have ei:Hid _:=ay;have dl:Hid (∀i (h:i<t.2.1.length),Uu k fs D N f t.2.1[i].2):=λi h=>hC _ (.inl (PI.2 ⟨_,Px h,rfl⟩));have bx:Hid (∀i (h:i<t.2.2.length),Uu k fs D N f t.2.2[i]):=λi h=>hC _ (.inr (Px h));have pW:Hid (∀i (h:i<t.2.1.length),((t.2.1[i].1.1≠[]->∃e,look k t.2.1[i].1.1=some e)/\PD N ((t.1.2.2,Pr k t.2.1[i].1)::acc))/\SD k fs N f t.2.1[i].2 ((t.1.2.2,Pr k t.2.1[i].1)::acc)):=λi hi=>h.lay.1 _ (Px hi);have kA:Hid (∀i (h:i<t.2.2.length),PD N ((t.1.2.2,R8 k fs (t.2.1.map (·.1)))::acc)/\SD k fs N f t.2.2[i] ((t.1.2.2,R8 k fs (t.2.1.map (·.1)))::acc)):=λi hi=>⟨(h.lay.2 _ (Px hi)).1.2,(h.lay.2 _ (Px hi)).2⟩;have AL:Hid (0<t.2.2.length->∀W',Below w.heap.size w W'->Calls Tryz.prog 66 #[.slice fa fs.length fc,.agg #[.int .i64 t.1.1,.int .i64 t.1.2.1,.slice pa t.1.2.2.length pc,.slice ca t.2.1.length cc,.slice ea t.2.2.length ec]] W' (ZP (R8 k fs (t.2.1.map (·.1))) W')):=λh0 W' hb=>br1 aF aY t (h.lay.2 _ (Px h0)).1.1 fY.1 W' S _ fa fc (λy hy=>PQ (h.set y hy) hb.size) (h.fams.on (OZ.of hb h.set)) (PL.below (OZ.of hb h.set) (λ_ h=>h) (f+1) _ _ h.tree);rw [Yo];obtain ⟨bH,hs2⟩:=fY;clear jn eP fz aK ay AQ h hC;generalize t.1.1=t0 at *
 generalize t.1.2.1=t1 at *
 generalize t.1.2.2=path at *
 generalize t.2.1=l1 at *
 generalize t.2.2=l2 at *
 obtain ⟨W,hW⟩:∃W,W=w.alloc (Obj.cells #[.int .i64 t0,.int .i64 t1,.slice pa path.length pc,.slice ca l1.length cc,.slice ea l2.length ec] 30):=⟨_,rfl⟩;have an:Below w.heap.size w W:=by rw [hW];exact (Pb _ _).alloc (P6 _) _
 have gC:W.heap[w.heap.size]? =some (.cells #[.int .i64 t0,.int .i64 t1,.slice pa path.length pc,.slice ca l1.length cc,.slice ea l2.length ec] 30 (0,0)):=by rw [hW];exact PF _ _
 have HW:Hid (∀W',Below W.heap.size W W'->Below w.heap.size w W'/\W'.cell? ⟨w.heap.size,0,none⟩=some (.int .i64 t0)/\W'.cell? ⟨w.heap.size,2,none⟩=some (.slice pa path.length pc)/\W'.cell? ⟨w.heap.size,3,none⟩=some (.slice ca l1.length cc)/\W'.cell? ⟨w.heap.size,4,none⟩=some (.slice ea l2.length ec)/\W'.cell? ⟨w.heap.size,1,none⟩=some (.int .i64 t1)):=λW' aj=>by
  have e:=(aj.block _ (PV gC)).trans gC;exact ⟨an.trans (aj.mono an.size),P5 e rfl,P5 e rfl,P5 e rfl,P5 e rfl,P5 e rfl⟩
 obtain ⟨_,b0,_,b3,b4,_⟩:=HW.out W (Pb _ _);have dB:=P4 an;clear an gC;by_cases h1:t0=1
 ·have HF:Hid (Ql k fs f t0 path l1 l2=some []):=by
   show _=_;unfold Ql;rw [Pc h1]
  rw [HF.out];subst h1;clear ep ei dl bx;go_enter Tryz.func48,Tryz.ntmps48
  go_upto_region 1 with fail
  rw [<-hW];clear hW;go_wp2;refine Qv (v:= .tuple #[.slice va N vc,.bool true]) (by simp [results,Tryz.results48,go_sem]) rfl ?_;exact ⟨dB.out,.inr ⟨[],va,vc,rfl,rfl,(rF.on (OZ.of dB.out gH.out)).up λ_ h=> .inl h⟩⟩
 have e1:(t0==1)=false:=by simpa using h1
 have kt:=P4 h1;clear h1;go_enter Tryz.func48,Tryz.ntmps48
 go_upto_region 1 with fail
 rw [<-hW];clear hW;go_wp2;clear b0 b3 b4
 go_loopw [8] (λiv wr=>∃i:Nat,i<=l1.length/\iv= .int .i64 i/\Hid (Below W.heap.size W wr)/\Hid (∀j (hj:j<l1.length),j<i->Qx k fs f l1[j].2=none)) (λiv _=>l1.length-(intOf iv).toNat)
 case atStart=>exact ⟨0,by omega,by go_num,Pb _ _,λj _ h=>absurd h (WP _)⟩
 obtain ⟨i,hi,rfl,HB,HM⟩:=hrel;obtain ⟨az,b0,b2,b3,b4,b1⟩:=HW.out wr HB.out;by_cases ag:i<l1.length
 ·obtain ⟨g,o,rfl,hcc,eR⟩:=ep.out (λe=>by rw [e] at ag;simp at ag);obtain ⟨s0,q0,q1,fL,v0,v1,v2,v3,v4,q2,q3,q4,q5,q6,mh⟩:=eR i ag;have hk:=OZ.of az gH.out;replace q0:=(hk.cell (p:=⟨g,o+i*7,none⟩) s0).trans q0;replace q1:=(hk.cell (p:=⟨g,o+i*7+1,none⟩) s0).trans q1;have i1:(0:Int)<=(i:Int):=by omega
  have i2:(i:Int)<(l1.length:Int):=by omega
  by_cases hc:l1[i].1.1=[]
  all_goals
   first
   | (
    rw [hc] at q0
    go_upto_region 7 with fail
    obtain ⟨V,hV⟩:∃V,V=wr.alloc (Obj.cells #[.int .i64 3,.string ⟨#[]⟩,.int .i64 l1[i].1.2,.slice none 0 0] 50):=⟨_,rfl⟩;have eT:Below wr.heap.size wr V:=by rw [hV];exact (Pb _ _).alloc (P6 _) _
    have ip:V.heap[wr.heap.size]? =some (.cells #[.int .i64 3,.string ⟨#[]⟩,.int .i64 l1[i].1.2,.slice none 0 0] 50 (0,0)):=by rw [hV];exact PF _ _
    rw [<-hV];clear hV;obtain ⟨_,_,x2,x3,_,_⟩:=HW.out V (HB.trans (eT.mono HB.size));have x0:=(eT.cell (p:=⟨g,o+i*7,none⟩) (PQ (gH.out _ s0) az.size)).trans q0;clear b0 b2 b3 b4 b1 q0 q1;have eQ:Below w.heap.size w V:=az.trans (eT.mono az.size);have hpo:Pr k l1[i].1=((3,[],l1[i].1.2),0):=by unfold Pr;rw [Pc hc]
    have hbare:SA V (λy=>S y\/(w.heap.size<=y/\y<V.heap.size)) (Pr k l1[i].1) (.agg #[.int .i64 3,.string ⟨#[]⟩,.int .i64 l1[i].1.2,.slice none 0 0]):=by
     rw [hpo];exact ⟨none,0,rfl,by simp,.inl ⟨rfl,_,_,rfl⟩⟩
    have CS:=Fk (s:=(path,Pr k l1[i].1)) hN hD (dl.out i ag) gH.out eO.out rF.out lG.out mh (pW.out i ag).1.2 (λy hy=>by
     rcases Qa.1 hy with rfl | hy
     ·exact (YJ (SJ aF) _).1
     exact wO.2.1 y hy) wO.2.2 (pW.out i ag).2 eQ hbare
    obtain ⟨a',b',pa',pl',pc',ca',cl',cc',ea',el',ec',rfl,rfl,rfl,rfl,rfl⟩:=mh.vals;have wP:Hid (∀V6,Below V.heap.size V V6->V6.cell? ⟨w.heap.size,3,none⟩=some (.slice (some ⟨g,o,none⟩) l1.length cc)/\V6.cell? ⟨g,o+i*7+2,none⟩=some (.int .i64 a')/\V6.cell? ⟨g,o+i*7+3,none⟩=some (.int .i64 b')/\V6.cell? ⟨g,o+i*7+4,none⟩=some (.slice pa' pl' pc')/\V6.cell? ⟨g,o+i*7+5,none⟩=some (.slice ca' cl' cc')/\V6.cell? ⟨g,o+i*7+6,none⟩=some (.slice ea' el' ec')):=λV6 hb=>by
     have hb2:=eQ.trans (hb.mono eQ.size);have hk:=OZ.of hb2 gH.out;exact ⟨(HW.out V6 ((HB.trans (eT.mono HB.size)).trans (hb.mono (PZ HB.size eT.size)))).2.2.2.1,(hk.cell (p:=⟨g,o+i*7+2,none⟩) s0).trans q2,(hk.cell (p:=⟨g,o+i*7+3,none⟩) s0).trans q3,(hk.cell (p:=⟨g,o+i*7+4,none⟩) s0).trans q4,(hk.cell (p:=⟨g,o+i*7+5,none⟩) s0).trans q5,(hk.cell (p:=⟨g,o+i*7+6,none⟩) s0).trans q6⟩
    have wQ:=P4 (HB.trans (eT.mono HB.size));have y0:=P5 ip (i:=0) rfl;have y1:=P5 ip (i:=1) rfl;have y2:=P5 ip (i:=2) rfl;have y3:=P5 ip (i:=3) rfl;have lN:Hid (∀y,Qx k fs f l1[i].2=some y->Ql k fs f t0 path l1 l2=some (y++[(path,Pr k l1[i].1)])):=λy hy=>zI kt.out i ag HM.out hy;have em:Hid (Qx k fs f l1[i].2=none->∀j (hj:j<l1.length),j<i+1->Qx k fs f l1[j].2=none):=λh j hj bZ=>by
     by_cases e:j=i
     ·subst e;exact h
     exact HM.out j hj (by omega)
    clear eT ip eQ hbare hpo mh fL eR hk q2 q3 q4 q5 q6;generalize Pr k l1[i].1=q at *
    generalize l1[i].1.2=num at *
    generalize Qx k fs f l1[i].2=res at *
    go_upto_region 12 with (first | (go_at_call 65;(with_reducible refine Pe CS ?_);rintro e' w5 ⟨jW,cap5,rfl,hb5,CM⟩))
    obtain ⟨V6,lw⟩:∃V6,V6=w5.alloc (Obj.cells #[.int .i64 0,.string ⟨#[]⟩,.int .i64 0,.slice jW N cap5] 50):=⟨_,rfl⟩;have hb6:Below w5.heap.size w5 V6:=by rw [lw];exact (Pb _ _).alloc (P6 _) _
    have ti:V6.heap[w5.heap.size]? =some (.cells #[.int .i64 0,.string ⟨#[]⟩,.int .i64 0,.slice jW N cap5] 50 (0,0)):=by rw [lw];exact PF _ _
    rw [<-lw];clear lw x0 x2 x3 y0 y1 y2 y3;have dN:Below V.heap.size V V6:=hb5.trans (hb6.mono hb5.size))
   | (
    obtain ⟨⟨fw,by6⟩,jy⟩:=pW.out i ag;obtain ⟨⟨fi,pj,yn⟩,fw⟩:=fw hc;obtain ⟨F,iG,C7,FF⟩:=Ln aF fw;dsimp only at iG C7 FF;have hpo:Pr k l1[i].1=((4,l1[i].1.1,0),yn):=by
     unfold Pr O';rw [P7 hc,fw]
     rfl
    have Hd:yn<=8:=by
     have:=WU (SJ aF) l1[i].1.1;unfold O' at this;rw [fw] at this;exact this
    have ch5:fi<fs.length:=(Tt.1 iG).1;have bu2:F.1≠[]:=λe=>by rw [e] at C7;simp at C7
    have zl:F.2.length=F.1.length:=(UC fs 0 [] k aF F (Tf iG)).2;obtain ⟨cO,yz⟩:=Tt.1 FF
    go_upto_region 7 with fail
    obtain ⟨V,hV⟩:∃V,V=wr.alloc (Obj.cells #[.int .i64 3,.string ⟨#[]⟩,.int .i64 l1[i].1.2,.slice none 0 0] 50):=⟨_,rfl⟩;have iM:Below wr.heap.size wr V:=by rw [hV];exact (Pb _ _).alloc (P6 _) _
    have rG:V.heap[wr.heap.size]? =some (.cells #[.int .i64 3,.string ⟨#[]⟩,.int .i64 l1[i].1.2,.slice none 0 0] 50 (0,0)):=by rw [hV];exact PF _ _
    rw [<-hV];clear hV;obtain ⟨_,_,_,x3,_,_⟩:=HW.out V (HB.trans (iM.mono HB.size));have dh:g<wr.heap.size:=PQ (gH.out _ s0) az.size;have x0:=(iM.cell (p:=⟨g,o+i*7,none⟩) dh).trans q0;have AR:Below w.heap.size w V:=az.trans (iM.mono az.size);have Ja:=OZ.of AR gH.out;have FH:=eO.on Ja;have pX:Calls Tryz.prog 42 #[.slice fa fs.length fc,.string ⟨l1[i].1.1.toArray⟩] V λr w'=>w'=V/\r= .returned (.tuple #[.int .i64 fi,.int .i64 pj]):=(Kq (S:=S) fs _ _ _ FH aY (λf hf=>by have:=(UC fs 0 [] k aF f hf).1;omega)).mono λr w' h=>by
     have:=Lk aF h;rw [fw] at this;exact this
    obtain ⟨gf,of,gs,os,sc,gi,oi,ic,rfl,tu,lK,_,pV,_,vL,_,d1,_,d3⟩:=Jr FH iG bu2 zl;have d3:=d3 pj cO;rw [yz] at d3;have AO:=NW (w:=V) (λ_=>False) yn (λ_ h=>h.elim) (by omega);have Jb:Hid (∀w6,Below V.heap.size V w6->w6.cell? ⟨w.heap.size,3,none⟩=some (.slice (some ⟨g,o,none⟩) l1.length cc)/\w6.cell? ⟨g,o+i*7,none⟩=some (.string ⟨l1[i].1.1.toArray⟩)/\w6.heap[wr.heap.size]? =some (.cells #[.int .i64 3,.string ⟨#[]⟩,.int .i64 l1[i].1.2,.slice none 0 0] 50 (0,0))):=λw6 hb=>⟨(HW.out w6 ((HB.trans (iM.mono HB.size)).trans (hb.mono (PZ HB.size iM.size)))).2.2.2.1,(hb.cell (p:=⟨g,o+i*7,none⟩) (PQ dh iM.size)).trans x0,(hb.block _ (PV rG)).trans rG⟩;have n0:List.isEmpty l1[i].1.1=false:=by simpa using hc
    have as5:(0:Int)<=(fi:Int):=by omega
    have aa3:(fi:Int)<(fs.length:Int):=by omega
    have al6:(0:Int)<=(pj:Int):=by omega
    have ac4:(pj:Int)<(F.2.length:Int):=by omega
    have rh:Hid _:=fw;have pD:Hid _:=iG;clear b0 b2 b3 b4 b1 q0 q1 fw iG C7 FF yz FH Ja
    go_upto_region 10 with (first | (go_at_call 42;(with_reducible refine Pe pX ?_);rintro e' w3 ⟨hw3,rfl⟩;subst w3) | (go_at_call 47;(with_reducible refine Pe AO ?_);rintro e' w6 ⟨v6,rfl,hb6,O6⟩;obtain ⟨qe,gG,e6⟩:=Own.len O6;rw [Tq] at e6;subst e6))
    obtain ⟨cf7,cc6,qh⟩:=Jb.out w6 hb6;have r0:=P5 qh (i:=0) rfl;have r1:=P5 qh (i:=1) rfl;have r2:=P5 qh (i:=2) rfl;have r3:=P5 qh (i:=3) rfl;have z0:=Pp (o:=0) qh;have z1:=Pp (o:=1) qh;have z2:=Pp (o:=2) qh;have z3:=Pp (o:=3) qh;obtain ⟨U,hU,ip,bj,c9,aP⟩:=Z5 qh (.int .i64 4) (.string ⟨l1[i].1.1.toArray⟩) (.int .i64 0) (.slice qe yn gG);have mn:Below wr.heap.size wr w6:=iM.trans (hb6.mono iM.size);have eT:Below wr.heap.size wr U:=⟨aP.1.trans mn.os,aP.2.1.trans mn.tape,aP.2.2.trans mn.output,by rw [bj];exact mn.size,λy hy=>(c9 y (by omega)).trans (mn.block y hy)⟩;have ay4:=PV rG;have AA:=hb6.size;have eQ:Below w.heap.size w U:=az.trans (eT.mono az.size);have qu:=az.size;have hbare:SA U (λy=>S y\/(w.heap.size<=y/\y<U.heap.size)) (Pr k l1[i].1) (.agg #[.int .i64 4,.string ⟨l1[i].1.1.toArray⟩,.int .i64 0,.slice qe yn gG]):=by
     rw [hpo];refine ⟨qe,gG,rfl,fL,((Pi.rowE O6).toPats.on λy hy=>c9 y ?_).up λy hy=> ?_⟩
     ·rcases hy with hy | hy | hy
      ·omega
      ·exact hy.elim
      omega
     rcases hy with hy | hy | hy
     ·exact .inr ⟨by omega,by omega⟩
     ·exact hy.elim
     exact .inr ⟨by omega,by omega⟩
    have Jc:=S6 eQ eT ip hbare;clear eQ eT ip hbare bj c9 aP O6 hb6 mn qh d1 d3 x0 x3 rG iM AR pX AO Jb ay4 AA qu
    go_upto_region 11 with fail
    rw [<-hU];clear hU cf7 cc6 r0 r1 r2 r3 z0 z1 z2 z3;obtain ⟨eQ,eT,ip,hbare⟩:=Jc.out;clear Jc;obtain ⟨_,_,x2,x3,_,_⟩:=HW.out U (HB.trans (eT.mono HB.size));have x0:True:=trivial;have CS:=Fk (s:=(path,Pr k l1[i].1)) hN hD (dl.out i ag) gH.out eO.out rF.out lG.out mh (pW.out i ag).1.2 (λy hy=>by
     rcases Qa.1 hy with rfl | hy
     ·exact (YJ (SJ aF) _).1
     exact wO.2.1 y hy) wO.2.2 (pW.out i ag).2 eQ hbare
    obtain ⟨a',b',pa',pl',pc',ca',cl',cc',ea',el',ec',rfl,rfl,rfl,rfl,rfl⟩:=mh.vals;have wP:Hid (∀V6,Below U.heap.size U V6->V6.cell? ⟨w.heap.size,3,none⟩=some (.slice (some ⟨g,o,none⟩) l1.length cc)/\V6.cell? ⟨g,o+i*7+2,none⟩=some (.int .i64 a')/\V6.cell? ⟨g,o+i*7+3,none⟩=some (.int .i64 b')/\V6.cell? ⟨g,o+i*7+4,none⟩=some (.slice pa' pl' pc')/\V6.cell? ⟨g,o+i*7+5,none⟩=some (.slice ca' cl' cc')/\V6.cell? ⟨g,o+i*7+6,none⟩=some (.slice ea' el' ec')):=λV6 hb=>by
     have hb2:=eQ.trans (hb.mono eQ.size);have hk:=OZ.of hb2 gH.out;exact ⟨(HW.out V6 ((HB.trans (eT.mono HB.size)).trans (hb.mono (PZ HB.size eT.size)))).2.2.2.1,(hk.cell (p:=⟨g,o+i*7+2,none⟩) s0).trans q2,(hk.cell (p:=⟨g,o+i*7+3,none⟩) s0).trans q3,(hk.cell (p:=⟨g,o+i*7+4,none⟩) s0).trans q4,(hk.cell (p:=⟨g,o+i*7+5,none⟩) s0).trans q5,(hk.cell (p:=⟨g,o+i*7+6,none⟩) s0).trans q6⟩
    have wQ:=P4 (HB.trans (eT.mono HB.size));have y0:=P5 ip (i:=0) rfl;have y1:=P5 ip (i:=1) rfl;have y2:=P5 ip (i:=2) rfl;have y3:=P5 ip (i:=3) rfl;have lN:Hid (∀y,Qx k fs f l1[i].2=some y->Ql k fs f t0 path l1 l2=some (y++[(path,Pr k l1[i].1)])):=λy hy=>zI kt.out i ag HM.out hy;have em:Hid (Qx k fs f l1[i].2=none->∀j (hj:j<l1.length),j<i+1->Qx k fs f l1[j].2=none):=λh j hj bZ=>by
     by_cases e:j=i
     ·subst e;exact h
     exact HM.out j hj (by omega)
    clear eT ip eQ hbare hpo mh fL eR hk q2 q3 q4 q5 q6 hc n0 jy by6 rh pD;generalize Pr k l1[i].1=q at *
    generalize l1[i].1.1=con at *
    generalize Qx k fs f l1[i].2=res at *
    go_upto_region 12 with (first | (go_at_call 65;(with_reducible refine Pe CS ?_);rintro e' w5 ⟨jW,cap5,rfl,hb5,CM⟩))
    obtain ⟨V6,lw⟩:∃V6,V6=w5.alloc (Obj.cells #[.int .i64 0,.string ⟨#[]⟩,.int .i64 0,.slice jW N cap5] 50):=⟨_,rfl⟩;have hb6:Below w5.heap.size w5 V6:=by rw [lw];exact (Pb _ _).alloc (P6 _) _
    have ti:V6.heap[w5.heap.size]? =some (.cells #[.int .i64 0,.string ⟨#[]⟩,.int .i64 0,.slice jW N cap5] 50 (0,0)):=by rw [lw];exact PF _ _
    rw [<-lw];clear lw x0 x2 x3 y0 y1 y2 y3;have dN:Below U.heap.size U V6:=hb5.trans (hb6.mono hb5.size))
  all_goals
   obtain ⟨z0,z2,z3,z4,z5,z6⟩:=wP.out V6 dN;have AS:=P5 ti (i:=3) rfl;have FI:=PV ti;have AT:=KY (CM V6.drew hb6.drew);have AU:Hid (∀w7,Below V6.drew.heap.size V6.drew w7->w7.cell? ⟨w.heap.size,3,none⟩=some (.slice (some ⟨g,o,none⟩) l1.length cc)/\(w7.cell? ⟨g,o+i*7+2,none⟩=some (.int .i64 a')/\w7.cell? ⟨g,o+i*7+3,none⟩=some (.int .i64 b')/\w7.cell? ⟨g,o+i*7+4,none⟩=some (.slice pa' pl' pc')/\w7.cell? ⟨g,o+i*7+5,none⟩=some (.slice ca' cl' cc')/\w7.cell? ⟨g,o+i*7+6,none⟩=some (.slice ea' el' ec'))/\w7.cell? ⟨w5.heap.size,3,none⟩=some (.slice jW N cap5)):=λw7 hb=>by
    have hb7:Below V6.heap.size V6 w7:=⟨hb.os,hb.tape,hb.output,hb.size,hb.block⟩;obtain ⟨e0,e2,e3,e4,e5,e6⟩:=wP.out w7 (dN.trans (hb7.mono dN.size));exact ⟨e0,⟨e2,e3,e4,e5,e6⟩,(hb7.cell (p:=⟨w5.heap.size,3,none⟩) FI).trans AS⟩
   have AV:=AU.out V6.drew (Pb _ _);have dm:=P4 (wQ.trans (dN.mono wQ.size));clear CS CM hb5 hb6 ti dN z0 z2 z3 z4 z5 z6 AS
   go_region_held3 (λw'=>w'.cell? ⟨w.heap.size,3,none⟩=some (.slice (some ⟨g,o,none⟩) l1.length cc)/\(w'.cell? ⟨g,o+i*7+2,none⟩=some (.int .i64 a')/\w'.cell? ⟨g,o+i*7+3,none⟩=some (.int .i64 b')/\w'.cell? ⟨g,o+i*7+4,none⟩=some (.slice pa' pl' pc')/\w'.cell? ⟨g,o+i*7+5,none⟩=some (.slice ca' cl' cc')/\w'.cell? ⟨g,o+i*7+6,none⟩=some (.slice ea' el' ec'))/\w'.cell? ⟨w5.heap.size,3,none⟩=some (.slice jW N cap5))
    (first | (with_reducible exact AV) | (with_reducible exact mP))
    (first | (go_at_call 48;(with_reducible refine Pe AT ?_);rintro e' w7 ⟨oa,ol,oc,bb,rfl,hb7,HRS⟩;have mP:=AU.out w7 hb7))
   have AW:Hid (Below W.heap.size W w7):=dm.trans (OO ⟨hb7.os,hb7.tape,hb7.output,hb7.size,hb7.block⟩ dm.size);clear hb7 mP AV AT;cases bb with
   | true=>
    obtain ⟨y,hy,dg,AX⟩:∃y,res=some y/\ol=N/\Pl w7 (λz=>S z\/(w.heap.size<=z/\z<w7.heap.size)) (.slice oa N oc) (Sg D N ((y++[(path,q)])++acc)).kids:=by
     rcases HRS.out with ⟨h,_⟩ | ⟨_,h1,y,h2,h3⟩
     ·cases h
     exact ⟨y,h2,h1,h3⟩
    subst dg;have dj:Hid (MS D ol (Ql k fs f t0 path l1 l2) acc S w (.returned (.tuple #[.slice oa ol oc,.bool true])) w7):=⟨dB.trans (AW.mono dB.size),.inr ⟨_,oa,oc,lN.out y hy,rfl,AX⟩⟩;clear HRS em lN AX hy;go_wp2;refine Qv (v:= .tuple #[.slice oa ol oc,.bool true]) (by simp [results,Tryz.results48,go_sem]) rfl ?_;exact dj.out
   | false=>
    have FJ:Hid (∀j (hj:j<l1.length),j<i+1->Qx k fs f l1[j].2=none):=em.out (by
     rcases HRS.out with ⟨_,h⟩ | ⟨h,_⟩
     ·exact h
     cases h)
    clear HRS em lN;go_wp2;exact ⟨⟨i+1,ag,by go_num,AW.out,FJ.out⟩,by simp [intOf];omega⟩
 obtain rfl:i=l1.length:=by omega
 have FK:Hid (∀j (hj:j<l1.length),Qx k fs f l1[j].2=none):=λj hj=>HM.out j hj hj;have bI:=P4 HB.out;clear HM HB ep dl pW az;go_wp2;clear b0 b1 b2 b3 b4
 go_loopw [16] (λiv wr=>∃i:Nat,i<=l2.length/\iv= .int .i64 i/\Hid (Below W.heap.size W wr)/\Hid (∀j (hj:j<l2.length),j<i->Qx k fs f l2[j]=none)) (λiv _=>l2.length-(intOf iv).toNat)
 case atStart=>exact ⟨0,by omega,by go_num,bI.out,λj _ h=>absurd h (WP _)⟩
 obtain ⟨i,hi,rfl,HB,HM⟩:=hrel;obtain ⟨az,b0,b2,b3,b4,b1⟩:=HW.out wr HB.out;by_cases ag:i<l2.length
 ·obtain ⟨g,o,rfl,hcc,eR⟩:=ei.out (λe=>by rw [e] at ag;simp at ag);obtain ⟨s0,v0,v1,v2,v3,v4,q2,q3,q4,q5,q6,mh⟩:=eR i ag;have i1:(0:Int)<=(i:Int):=by omega
  have i2:(i:Int)<(l2.length:Int):=by omega
  have CO:=AL.out (by omega) wr az;have Jd:Calls Tryz.prog 66 #[.slice fa fs.length fc,.agg #[.int .i64 t0,.int .i64 t1,.slice pa path.length pc,.slice ca l1.length cc,.slice (some ⟨g,o,none⟩) l2.length ec]] wr λr V=>∃a b c ad n cap,r= .returned (.agg #[.int .i64 a,.string b,.int .i64 c,.slice ad n cap])/\Below wr.heap.size wr V/\Hid (SA V (λy=>wr.heap.size<=y/\y<V.heap.size) (R8 k fs (l1.map (·.1))) (.agg #[.int .i64 a,.string b,.int .i64 c,.slice ad n cap])):=CO.mono λr V h=>by
   obtain ⟨h1,v,rfl,h2⟩:=h;obtain ⟨ad,cap,rfl,h3⟩:=id h2;exact ⟨_,_,_,_,_,_,rfl,h1,h2⟩
  clear CO
  go_upto_region 19 with (first | (go_at_call 66;(with_reducible refine Pe Jd ?_);rintro e' V ⟨qa,qb,qc,qd,qn,qp,rfl,eT,HQV⟩))
  obtain ⟨U,hU⟩:∃U,U=V.alloc (Obj.cells #[.int .i64 qa,.string qb,.int .i64 qc,.slice qd qn qp] 50):=⟨_,rfl⟩;have ii:Below V.heap.size V U:=by rw [hU];exact (Pb _ _).alloc (P6 _) _
  have ip:U.heap[V.heap.size]? =some (.cells #[.int .i64 qa,.string qb,.int .i64 qc,.slice qd qn qp] 50 (0,0)):=by rw [hU];exact PF _ _
  rw [<-hU];clear hU b0 b1 b2 b3 b4;have at7:=eT.size;have ak6:=ii.size;have hbare:SA U (λy=>S y\/(w.heap.size<=y/\y<U.heap.size)) (R8 k fs (l1.map (·.1))) (.agg #[.int .i64 qa,.string qb,.int .i64 qc,.slice qd qn qp]):=by
   obtain ⟨ad,cap,h1,h2,h3⟩:=HQV.out;refine ⟨ad,cap,h1,h2,(h3.on λy hy=>ii.block y hy.2).up λy hy=> .inr ⟨?_,by omega⟩⟩;have:=az.size;omega
  replace eT:Below wr.heap.size wr U:=eT.trans (ii.mono eT.size);have eQ:Below w.heap.size w U:=az.trans (eT.mono az.size);obtain ⟨_,_,x2,_,_,_⟩:=HW.out U (HB.trans (eT.mono HB.size));clear Jd HQV;have CS:=Fk (s:=(path,R8 k fs (l1.map (·.1)))) hN hD (bx.out i ag) gH.out eO.out rF.out lG.out mh (kA.out i ag).1 (λy hy=>by
   rcases Qa.1 hy with rfl | hy
   ·exact LB (SJ aF) _
   exact wO.2.1 y hy) wO.2.2 (kA.out i ag).2 eQ hbare
  obtain ⟨a',b',pa',pl',pc',ca',cl',cc',ea',el',ec',rfl,rfl,rfl,rfl,rfl⟩:=mh.vals;have wP:Hid (∀V6,Below U.heap.size U V6->V6.cell? ⟨w.heap.size,4,none⟩=some (.slice (some ⟨g,o,none⟩) l2.length ec)/\V6.cell? ⟨g,o+i*5,none⟩=some (.int .i64 a')/\V6.cell? ⟨g,o+i*5+1,none⟩=some (.int .i64 b')/\V6.cell? ⟨g,o+i*5+2,none⟩=some (.slice pa' pl' pc')/\V6.cell? ⟨g,o+i*5+3,none⟩=some (.slice ca' cl' cc')/\V6.cell? ⟨g,o+i*5+4,none⟩=some (.slice ea' el' ec')):=λV6 hb=>by
   have hb2:=eQ.trans (hb.mono eQ.size);have hk:=OZ.of hb2 gH.out;exact ⟨(HW.out V6 ((HB.trans (eT.mono HB.size)).trans (hb.mono (PZ HB.size eT.size)))).2.2.2.2.1,(hk.cell (p:=⟨g,o+i*5,none⟩) s0).trans q2,(hk.cell (p:=⟨g,o+i*5+1,none⟩) s0).trans q3,(hk.cell (p:=⟨g,o+i*5+2,none⟩) s0).trans q4,(hk.cell (p:=⟨g,o+i*5+3,none⟩) s0).trans q5,(hk.cell (p:=⟨g,o+i*5+4,none⟩) s0).trans q6⟩
  have wQ:=P4 (HB.trans (eT.mono HB.size));have y0:=P5 ip (i:=0) rfl;have y1:=P5 ip (i:=1) rfl;have y2:=P5 ip (i:=2) rfl;have y3:=P5 ip (i:=3) rfl;have lN:Hid (∀y,Qx k fs f l2[i]=some y->Ql k fs f t0 path l1 l2=some (y++[(path,R8 k fs (l1.map (·.1)))])):=λy hy=>sd0 kt.out FK.out i ag HM.out hy;have em:Hid (Qx k fs f l2[i]=none->∀j (hj:j<l2.length),j<i+1->Qx k fs f l2[j]=none):=λh j hj bZ=>by
   by_cases e:j=i
   ·subst e;exact h
   exact HM.out j hj (by omega)
  clear eT ip eQ hbare mh eR q2 q3 q4 q5 q6;generalize R8 k fs (l1.map (·.1))=q at *
  generalize Qx k fs f l2[i]=res at *
  go_upto_region 20 with (first | (go_at_call 65;(with_reducible refine Pe CS ?_);rintro e' w5 ⟨jW,cap5,rfl,hb5,CM⟩))
  obtain ⟨V6,lw⟩:∃V6,V6=w5.alloc (Obj.cells #[.int .i64 0,.string ⟨#[]⟩,.int .i64 0,.slice jW N cap5] 50):=⟨_,rfl⟩;have hb6:Below w5.heap.size w5 V6:=by rw [lw];exact (Pb _ _).alloc (P6 _) _
  have ti:V6.heap[w5.heap.size]? =some (.cells #[.int .i64 0,.string ⟨#[]⟩,.int .i64 0,.slice jW N cap5] 50 (0,0)):=by rw [lw];exact PF _ _
  rw [<-lw];clear lw x2 y0 y1 y2 y3;have dN:Below U.heap.size U V6:=hb5.trans (hb6.mono hb5.size);obtain ⟨z0,z2,z3,z4,z5,z6⟩:=wP.out V6 dN;have AS:=P5 ti (i:=3) rfl;have FI:=PV ti;have AT:=KY (CM V6.drew hb6.drew);have AU:Hid (∀w7,Below V6.drew.heap.size V6.drew w7->w7.cell? ⟨w.heap.size,4,none⟩=some (.slice (some ⟨g,o,none⟩) l2.length ec)/\(w7.cell? ⟨g,o+i*5,none⟩=some (.int .i64 a')/\w7.cell? ⟨g,o+i*5+1,none⟩=some (.int .i64 b')/\w7.cell? ⟨g,o+i*5+2,none⟩=some (.slice pa' pl' pc')/\w7.cell? ⟨g,o+i*5+3,none⟩=some (.slice ca' cl' cc')/\w7.cell? ⟨g,o+i*5+4,none⟩=some (.slice ea' el' ec'))/\w7.cell? ⟨w5.heap.size,3,none⟩=some (.slice jW N cap5)):=λw7 hb=>by
   have hb7:Below V6.heap.size V6 w7:=⟨hb.os,hb.tape,hb.output,hb.size,hb.block⟩;obtain ⟨e0,e2,e3,e4,e5,e6⟩:=wP.out w7 (dN.trans (hb7.mono dN.size));exact ⟨e0,⟨e2,e3,e4,e5,e6⟩,(hb7.cell (p:=⟨w5.heap.size,3,none⟩) FI).trans AS⟩
  have AV:=AU.out V6.drew (Pb _ _);have dm:=P4 (wQ.trans (dN.mono wQ.size));clear CS CM hb5 hb6 ti dN z0 z2 z3 z4 z5 z6 AS
  go_region_held3 (λw'=>w'.cell? ⟨w.heap.size,4,none⟩=some (.slice (some ⟨g,o,none⟩) l2.length ec)/\(w'.cell? ⟨g,o+i*5,none⟩=some (.int .i64 a')/\w'.cell? ⟨g,o+i*5+1,none⟩=some (.int .i64 b')/\w'.cell? ⟨g,o+i*5+2,none⟩=some (.slice pa' pl' pc')/\w'.cell? ⟨g,o+i*5+3,none⟩=some (.slice ca' cl' cc')/\w'.cell? ⟨g,o+i*5+4,none⟩=some (.slice ea' el' ec'))/\w'.cell? ⟨w5.heap.size,3,none⟩=some (.slice jW N cap5))
   (first | (with_reducible exact AV) | (with_reducible exact mP))
   (first | (go_at_call 48;(with_reducible refine Pe AT ?_);rintro e' w7 ⟨oa,ol,oc,bb,rfl,hb7,HRS⟩;have mP:=AU.out w7 hb7))
  have AW:Hid (Below W.heap.size W w7):=dm.trans (OO ⟨hb7.os,hb7.tape,hb7.output,hb7.size,hb7.block⟩ dm.size);clear hb7 mP AV AT;cases bb with
  | true=>
   obtain ⟨y,hy,dg,AX⟩:∃y,res=some y/\ol=N/\Pl w7 (λz=>S z\/(w.heap.size<=z/\z<w7.heap.size)) (.slice oa N oc) (Sg D N ((y++[(path,q)])++acc)).kids:=by
    rcases HRS.out with ⟨h,_⟩ | ⟨_,h1,y,h2,h3⟩
    ·cases h
    exact ⟨y,h2,h1,h3⟩
   subst dg;have dj:Hid (MS D ol (Ql k fs f t0 path l1 l2) acc S w (.returned (.tuple #[.slice oa ol oc,.bool true])) w7):=⟨dB.trans (AW.mono dB.size),.inr ⟨_,oa,oc,lN.out y hy,rfl,AX⟩⟩;clear HRS em lN AX hy;go_wp2;refine Qv (v:= .tuple #[.slice oa ol oc,.bool true]) (by simp [results,Tryz.results48,go_sem]) rfl ?_;exact dj.out
  | false=>
   have FJ:Hid (∀j (hj:j<l2.length),j<i+1->Qx k fs f l2[j]=none):=em.out (by
    rcases HRS.out with ⟨_,h⟩ | ⟨h,_⟩
    ·exact h
    cases h)
   clear HRS em lN;go_wp2;exact ⟨⟨i+1,ag,by go_num,AW.out,FJ.out⟩,by simp [intOf];omega⟩
 obtain rfl:i=l2.length:=by omega
 have dj:Hid (MS D N (Ql k fs f t0 path l1 l2) acc S w (.returned (.tuple #[.slice none 0 0,.bool false])) wr):=⟨az,.inl ⟨KU kt.out FK.out λj hj=>HM.out j hj hj,rfl⟩⟩;clear HM FK AL ei bx kA;go_wp2;refine Qv (v:= .tuple #[.slice none 0 0,.bool false]) (by simp [results,Tryz.results48,go_sem]) rfl ?_;exact dj.out
theorem VB (w:World)(fa va:Option Addr)(n fc N vc:Nat):Calls Tryz.prog 48 #[.slice fa n fc,.agg #[.int .i64 0,.int .i64 0,.slice none 0 0,.slice none 0 0,.slice none 0 0],.slice va N vc] w λr w'=>r= .returned (.tuple #[.slice none 0 0,.bool false])/\Below w.heap.size w w':=by
 obtain ⟨W,hW⟩:∃W,W=w.alloc (Obj.cells #[.int .i64 0,.int .i64 0,.slice none 0 0,.slice none 0 0,.slice none 0 0] 30):=⟨_,rfl⟩;have HB:Hid (Below w.heap.size w W):=by rw [hW];exact (Pb _ _).alloc (P6 _) _
 have gC:W.heap[w.heap.size]? =some (.cells #[.int .i64 0,.int .i64 0,.slice none 0 0,.slice none 0 0,.slice none 0 0] 30 (0,0)):=by rw [hW];exact PF _ _
 have b0:=P5 gC (i:=0) rfl;have b3:=P5 gC (i:=3) rfl;have b4:=P5 gC (i:=4) rfl;clear gC;go_enter Tryz.func48,Tryz.ntmps48
 go_upto_region 1 with fail
 rw [<-hW];clear hW;go_wp2
 go_loopw [8] (λiv wr=>iv= .int .i64 0/\wr=W) (λ_ _=>0)
 case atStart=>exact ⟨rfl,rfl⟩
 obtain ⟨rfl,rfl⟩:=hrel;go_wp2
 go_loopw [16] (λiv gQ=>iv= .int .i64 0/\gQ=wr) (λ_ _=>0)
 case atStart=>exact ⟨rfl,rfl⟩
 obtain ⟨rfl,rfl⟩:=hrel;go_wp2;refine Qv (v:= .tuple #[.slice none 0 0,.bool false]) (by simp [results,Tryz.results48,go_sem]) rfl ?_;exact ⟨rfl,HB.out⟩
theorem Mq {k:Kn}{fs:List Pu}{D N:Nat}(aF:Po 0 [] fs=some k)(aY:fs.length<=10000)(hN:N<=16)(hD:D<=100000):∀(f:Nat) (t:Tr f),Sm f t->Uu k fs D N f t
 | 0,t,_=>λacc S x fa fc va vc w h=>by
  have hx:x=_:=h.tree;rw [hx];exact (VB w fa va fs.length fc N vc).mono λr w' ⟨h1,h2⟩=>⟨h2,.inl ⟨rfl,h1⟩⟩
 | f+1,t,hs=>UM aF aY hN hD t ⟨hs.1,hs.2.1⟩ λc hc=>by
  rcases hc with hc | hc
  ·obtain ⟨d,hd,rfl⟩:=PI.1 hc;exact Mq aF aY hN hD f _ (hs.2.2.1 d hd)
  exact Mq aF aY hN hD f _ (hs.2.2.2 c hc)
end
section
variable {F n Cb i:Nat}{w W wr:World}{v:Value}{k:Kn}{fs:List Pu}{S:Nat->Prop}{rows:List (List Pt)}{y:List Qj}
theorem VX (d:Nat)(p:List Nat):(RT [] d p).kids=[]:=by
 cases d with
 | zero=>rfl
 | succ d=>rw [XG];rfl
theorem bs1 {ad:Option Addr}{cap:Nat}(D:Nat)(h:Pl w S (.slice ad n cap) (List.replicate n Ta)):Pl w S (.slice ad n cap) (Sg D n []).kids:=by
 have hl:=N9 D n [];rcases h with ⟨h0,a,c,e⟩ | ⟨g,o,c,e,h0,h1,h2⟩
 ·have:n=0:=by simpa using h0
  subst this;exact .inl ⟨Up.1 hl,ad,cap,rfl⟩
 rw [Tq] at e h1;refine .inr ⟨g,o,c,by rw [hl];exact e,λe'=>h0 ?_,by rw [hl];exact h1,λj hj=> ?_⟩
 ·rw [List.replicate_eq_nil_iff,<-hl,e']
  rfl
 have aJ:j<n:=by rw [hl] at hj;exact hj
 have:=h2 j (by simpa using aJ);rw [On] at this;obtain ⟨z0,z1,z2,z3,z4,z5,za,zc,z6,z7⟩:=this.open;have hm:∃i,(Sg D n []).kids[j]=RT [] D [i]:=by
  have hm:∀q∈(Sg D n []).kids,∃i,q=RT [] D [i]:=λq hq=>by
   rw [YW] at hq;obtain ⟨i,_,h⟩:=PI.1 hq;exact ⟨i,h.symm⟩
  exact hm _ (Px hj)
 obtain ⟨i,hi⟩:=hm;rw [hi];have k1:(RT [] D [i]).lab=(1,[],0):=ZY _ _ _;have k2:=VX D [i];have q1:(RT [] D [i]).kind=1:=by unfold Pt.kind;rw [k1]
 have q2:(RT [] D [i]).name=[]:=by unfold Pt.name;rw [k1]
 have q3:(RT [] D [i]).num=0:=by unfold Pt.num;rw [k1]
 exact RN.mk (ad:=za) (cap:=zc) z0 (by rw [q1];exact z1) (by rw [q2];exact z2) (by rw [q3];exact z3) (by rw [q2];simp) (by rw [k2];simp) (by rw [k2];exact z6) (by rw [k2];exact .inl ⟨rfl,_,_,rfl⟩)
theorem UY {ao:List Qj}:Ub F ao rows=Qi F (rows.headD []).length ao:=by
 cases rows<;>rfl
structure Cy (W:World)(Cb:Nat)(bs:List Bool)(i:Nat)(v:Value)(wr:World):Prop where
 kx:Kx Cb W wr
 lt:Cb<W.heap.size
 blk:wr.heap[Cb]? =some (.cells #[.bool false,v,.slice none 0 0] 33 (0,0))
 own:wr.ownsRow W.heap.size 3 1 v (Pf bs i).length ((Pf bs i).map λ(r:Nat)=>Value.int .i64 r)
theorem Cy.skip {bs:List Bool}(h:Cy W Cb bs i v wr)(hi:i<bs.length)(hb:bs[i]=true):Cy W Cb bs (i+1) v wr:=by
 have e:Pf bs (i+1)=Pf bs i:=by rw [OV bs i hi,Pc hb,SH]
 exact ⟨h.kx,h.lt,h.blk,by rw [e];exact h.own⟩
theorem Cy.put {bs:List Bool}(h:Cy W Cb bs i v wr)(hi:i<bs.length)(hb:bs[i]=false){o:Obj}{g cap:Nat}{w5:World}(ho:w5.ownsRow W.heap.size 3 1 (.slice (some ⟨g,0,none⟩) ((Pf bs i).length+1) cap) ((Pf bs i).length+1) ((Pf bs i).map (λ(r:Nat)=>Value.int .i64 r)++[.int .i64 i]))(hg:(wr.alloc o).grownBy w5 v.ownBlock):
  w5.heap[Cb]? =some (.cells #[.bool false,v,.slice none 0 0] 33 (0,0))/\Cy W Cb bs (i+1) (.slice (some ⟨g,0,none⟩) ((Pf bs i).length+1) cap) (w5.setCell ⟨Cb,1,none⟩ (.slice (some ⟨g,0,none⟩) ((Pf bs i).length+1) cap)):=by
 have hlt:=h.lt;have hsz:=h.kx.size;have Au:∀y,v.ownBlock=some y->W.heap.size<=y:=λy e=>(h.own.lt y e).1;have tj:∀y,y<W.heap.size->w5.heap[y]? =wr.heap[y]? :=λy hy=>by
  rw [hg.block y (by simp;omega) (λe=>by have:=Au _ e.symm;omega),Qq _ _ _ (by omega)]
 have aE:w5.heap[Cb]? =some (.cells #[.bool false,v,.slice none 0 0] 33 (0,0)):=(tj Cb hlt).trans h.blk;have e:Pf bs (i+1)=Pf bs i++[i]:=by rw [OV bs i hi,P7 (by rw [hb];simp)]
 have hA:Below W.heap.size wr w5:=((Pb W.heap.size wr).alloc hsz o).grown hg (by simp;omega) Au;refine ⟨aE,?_,hlt,?_,?_⟩
 ·refine ⟨hA.os.trans h.kx.os,hA.tape.trans h.kx.tape,hA.output.trans h.kx.output,by have:=hA.size;simp [World.setCell];omega,λy hy am=> ?_⟩;rw [PX _ _ _ _ am,tj y hy];exact h.kx.block y hy am
 ·have:=Q5 (i:=1) (v:= .slice (some ⟨g,0,none⟩) ((Pf bs i).length+1) cap) aE;exact this
 rw [e,QP,R6];obtain ⟨q1,q2⟩:=ho;refine ⟨q1,?_⟩;rcases q2 with ⟨q2,_⟩ | ⟨g',cap',cur,q2,q3,q4,q5⟩
 ·cases q2
 refine .inr ⟨g',cap',cur,q2,q3,?_,q5⟩;rw [PX _ _ _ _ (by show g'≠Cb;omega)];exact q4
theorem Cy.nats {bs:List Bool}{w':World}(h:Cy W Cb bs i v wr)(hk:∀y,W.heap.size<=y->y<wr.heap.size->w'.heap[y]? =wr.heap[y]?)(hs:wr.heap.size<=w'.heap.size){S:Nat->Prop}(hS:∀y,W.heap.size<=y->y<w'.heap.size->S y):∃ad cap,v= .slice ad (Pf bs i).length cap/\Pv w' S (.slice ad (Pf bs i).length cap) (Pf bs i):=by
 obtain ⟨q1,q2⟩:=h.own;rcases q2 with ⟨rfl,q2⟩ | ⟨g,cap,cur,rfl,q3,q4,q5,q6,q7,q8⟩
 ·exact ⟨none,0,by rw [q2],.inl ⟨Yd q2,none,0,by rw [q2]⟩⟩
 refine ⟨_,cap,rfl,?_⟩;by_cases h0:Pf bs i=[]
 ·exact .inl ⟨h0,_,_,by rw [h0];rfl⟩
 have hg:=PV q4;refine .inr ⟨g,0,cap,rfl,h0,q5,λj hj=>⟨hS g q3 (by omega),?_⟩⟩;refine P0 ((hk g q3 hg).trans q4) ?_;have h9:cur.toList[j]? =some (.int .i64 (Pf bs i)[j]):=by
  have:=congrArg (λl:List Value=>l[j]?) q8;simp only [ZH] at this;rw [Pc (by omega)] at this;rw [this];simp [hj]
 rw [Rp,R4,<-Nr];exact h9
def MD (F:Nat)(c:Cv F)(S:Nat->Prop)(w:World)(r:Ending)(w':World):Prop:=Below w.heap.size w w'/\∃ad1 c1 ad2 c2,r= .returned (.agg #[.bool c.1,.slice ad1 c.2.1.length c1,.slice ad2 c.2.2.length c2])/\Pv w' (λy=>S y\/(w.heap.size<=y/\y<w'.heap.size)) (.slice ad1 c.2.1.length c1) c.2.1/\Pl w' (λy=>S y\/(w.heap.size<=y/\y<w'.heap.size)) (.slice ad2 c.2.2.length c2) (c.2.2.map λu=>(⟨F+1,u⟩:Pt))
theorem IV {w6:World}{R:Nat}{x y z:Value}(hb:Below w.heap.size w w6)(hR:w6.heap[R]? =some (.cells #[x,y,z] 33 (0,0)))(hlt:w.heap.size<=R)(a b c:Value):∃U,U=((w6.setCell ⟨R,0,none⟩ a).setCell ⟨R,1,none⟩ b).setCell ⟨R,2,none⟩ c/\U.heap[R]? =some (.cells #[a,b,c] 33 (0,0))/\Below w.heap.size w U/\U.heap.size=w6.heap.size/\∀j,j≠R->U.heap[j]? =w6.heap[j]? :=by
 have a0:=Q5 (i:=0) (v:=a) hR;have a1:=Q5 (i:=1) (v:=b) a0;have a2:=Q5 (i:=2) (v:=c) a1;refine ⟨_,rfl,a2,((hb.setCell (p:=⟨R,0,none⟩) hlt _).setCell (p:=⟨R,1,none⟩) hlt _).setCell (p:=⟨R,2,none⟩) hlt _,by simp [World.setCell],λj hj=> ?_⟩;rw [PX _ _ _ _ hj,PX _ _ _ _ hj,PX _ _ _ _ hj]
theorem xm1 (n:Nat)(hn:n<=16)(hS:∀y,S y->y<w.heap.size):Calls Tryz.prog 47 #[.int .i64 n] w λr w3=>∃va vc,r= .returned (.slice va n vc)/\Below w.heap.size w w3/\Pl w3 (λy=>S y\/(w.heap.size<=y/\y<w3.heap.size)) (.slice va n vc) (Sg F n []).kids:=
 (NW S n hS (by omega)).mono λr w3 h=>by
  obtain ⟨v,rfl,hb,ho⟩:=h;have h1:=(Pi.rowE ho).toPats;obtain ⟨ad,cap,rfl⟩:=Pd.len h1;rw [Tq] at h1⊢;refine ⟨ad,cap,rfl,hb,bs1 F (h1.up λy hy=> ?_)⟩;rcases hy with hy | hy
  ·exact .inr hy
  exact hy
theorem xn1 (aF:Po 0 [] fs=some k)(aY:fs.length<=10000)(hF:F<=5001){t:Tr F}(fY:Sm F t){n:Nat}(hn:n<=16)(jy:SD k fs n F t []){w wr w3:World}{S:Nat->Prop}{fa va:Option Addr}{fc vc:Nat}{x:Value}(hS:∀b,S b->b<w.heap.size)(ee:PH w S (.slice fa fs.length fc) fs)(hx:PL w S F x t)(hb:Below w.heap.size w wr)(hb3:Below wr.heap.size wr w3)(hv:Pl w3 (λy=>S y\/(wr.heap.size<=y/\y<w3.heap.size)) (.slice va n vc) (Sg F n []).kids):
  Calls Tryz.prog 48 #[.slice fa fs.length fc,x,.slice va n vc] w3 λr w4=>∃oa ol oc bb,r= .returned (.tuple #[.slice oa ol oc,.bool bb])/\Below w3.heap.size w3 w4/\Hid ((bb=false/\Qx k fs F t=none)\/(bb=true/\ol=n/\∃y,Qx k fs F t=some y/\Pl w4 (λy=>S y\/(wr.heap.size<=y/\y<w4.heap.size)) (.slice oa n oc) (Sg F n y).kids)):=by
 have az:Below w.heap.size w w3:=hb.trans (hb3.mono hb.size);have hk:=OZ.of az hS;refine KY (P:=λy oa oc w4=>Pl w4 (λy=>S y\/(wr.heap.size<=y/\y<w4.heap.size)) (.slice oa n oc) (Sg F n y).kids) ((Mq aF aY hn (by omega) F t fY [] (λy=>S y\/(wr.heap.size<=y/\y<w3.heap.size)) x fa fc va vc w3 ⟨λy hy=>hy.elim (λh=>PQ (hS y h) az.size) λh=>h.2,(ee.on hk).up λ_ h=> .inl h,PL.below hk (λ_ h=> .inl h) F _ _ hx,hv,jy,trivial,λy hy=>by simp at hy,by simp⟩).mono λr w4 h=> ?_);obtain ⟨h1,h2 | ⟨y,ad,cap,h3,h4,h5⟩⟩:=h
 ·exact ⟨h1,.inl h2⟩
 refine ⟨h1,.inr ⟨y,ad,cap,h3,h4,?_⟩⟩;rw [SH] at h5;refine h5.up λz hz=> ?_;have:=h1.size;have:=hb3.size;rcases hz with (hz | hz) | hz
 ·exact .inl hz
 ·exact .inr ⟨hz.1,by omega⟩
 exact .inr ⟨by omega,hz.2⟩
theorem bt1:(Sg F n y).kids=(Qi F n y).map λu=>(⟨F+1,u⟩:Pt):=rfl
theorem Mr:(Qi F n y).length=n:=by unfold Qi;simp
theorem N5 {t:Tr F}{bs:List Bool}(P4:Pf bs rows.length=(List.range rows.length).filter λr=> !(Py F t).contains r){w w2 wr w4 U:World}{S:Nat->Prop}{dx oa:Option Addr}{b9 ol oc:Nat}{bb:Bool}(hS:∀b,S b->b<w.heap.size)(h4:w.heap.size+4<=w2.heap.size)(hC:Cy w2 (w.heap.size+2) bs rows.length (.slice dx (Pf bs rows.length).length b9) wr)(hb:Below wr.heap.size wr w4)(hU:Below w.heap.size w U)(hs:U.heap.size=w4.heap.size)(ho:∀j,j≠w.heap.size+1->j≠w.heap.size+2->U.heap[j]? =w4.heap[j]?)
  (hm:(bb=false/\Qx k fs F t=none)\/(bb=true/\ol=(rows.headD []).length/\∃y,Qx k fs F t=some y/\Pl w4 (λy=>S y\/(wr.heap.size<=y/\y<w4.heap.size)) (.slice oa (rows.headD []).length oc) (Sg F (rows.headD []).length y).kids)):
  MD F (Rq F k fs F t rows) S w (.returned (.agg #[.bool (!bb),.slice dx (Pf bs rows.length).length b9,if bb then .slice oa ol oc else .slice none 0 0])) U:=by
 have at2:=hC.kx.size;have aq7:=hb.size;obtain ⟨ad,cap,e,hn⟩:=hC.nats (w':=U) (S:=λy=>S y\/(w.heap.size<=y/\y<U.heap.size)) (λy h1 h2=>(ho y (by omega) (by omega)).trans (hb.block y h2)) (by omega) (λy h1 h2=> .inr ⟨by omega,h2⟩);injection e with e1 _ e3;subst e1 e3;rw [P4] at hn⊢;rcases hm with ⟨rfl,hm⟩ | ⟨rfl,rfl,y,hm,hp⟩
 ·rw [JR hm];exact ⟨hU,dx,b9,none,0,rfl,hn,.inl ⟨rfl,none,0,rfl⟩⟩
 rw [Nj hm,UY];refine ⟨hU,dx,b9,oa,oc,by rw [Mr];rfl,hn,?_⟩;rw [Mr,<-bt1];refine (hp.on λz hz=>ho z ?_ ?_).up λz hz=> ?_
 ·rcases hz with hz | hz
  ·have:=hS z hz;omega
  omega
 ·rcases hz with hz | hz
  ·have:=hS z hz;omega
  omega
 rcases hz with hz | hz
 ·exact .inl hz
 exact .inr ⟨by omega,by omega⟩
theorem X3 (aF:Po 0 [] fs=some k)(aY:fs.length<=10000)(hF:F<=5001)(t:Tr F)(rows:List (List Pt))(fY:Sm F t)(oQ:∀r∈Py F t,r<rows.length)(jy:SD k fs (rows.headD []).length F t [])
  {w:World}{S:Nat->Prop}(fa:Option Addr) (fc:Nat) (x rv:Value) (hS:∀b,S b->b<w.heap.size) (ee:PH w S (.slice fa fs.length fc) fs) (hx:PL w S F x t) (hR:RH w S rv rows) (hl:rows.length<=200) (cj:∀r∈rows,r.length<=16):
  Calls Tryz.prog 25 #[.slice fa fs.length fc,x,rv] w (MD F (Rq F k fs F t rows) S w):=by
 obtain ⟨a,b',pa,pl,pc,ca,cl,cc,ea,el,ec,rfl⟩:=hx.parts;obtain ⟨fP,ci,rfl,eR⟩:=Pd.open hR;have hW:∃W,W=((w.alloc (Obj.cells #[.int .i64 a,.int .i64 b',.slice pa pl pc,.slice ca cl cc,.slice ea el ec] 30)).alloc (Obj.cells #[.bool false,.slice none 0 0,.slice none 0 0] 33)).alloc (Obj.cells #[.bool false,.slice none 0 0,.slice none 0 0] 33)/\Below w.heap.size w W/\W.heap.size=w.heap.size+3/\W.heap[w.heap.size]? =some (.cells #[.int .i64 a,.int .i64 b',.slice pa pl pc,.slice ca cl cc,.slice ea el ec] 30 (0,0))/\W.heap[w.heap.size+1]? =some (.cells #[.bool false,.slice none 0 0,.slice none 0 0] 33 (0,0))/\W.heap[w.heap.size+2]? =some (.cells #[.bool false,.slice none 0 0,.slice none 0 0] 33 (0,0)):=by
  refine ⟨_,rfl,(((Pb _ _).alloc (P6 _) _).alloc (by simp) _).alloc (by simp;omega) _,by simp,?_,?_,?_⟩
  ·rw [Qq _ _ _ (by simp;omega),Qq _ _ _ (by simp)];exact PF w _
  ·rw [Qq _ _ _ (by simp)];have:=PF (w.alloc (Obj.cells #[.int .i64 a,.int .i64 b',.slice pa pl pc,.slice ca cl cc,.slice ea el ec] 30)) (Obj.cells #[.bool false,.slice none 0 0,.slice none 0 0] 33);simpa using this
  have:=PF ((w.alloc (Obj.cells #[.int .i64 a,.int .i64 b',.slice pa pl pc,.slice ca cl cc,.slice ea el ec] 30)).alloc (Obj.cells #[.bool false,.slice none 0 0,.slice none 0 0] 33)) (Obj.cells #[.bool false,.slice none 0 0,.slice none 0 0] 33);simpa using this
 obtain ⟨W,hW,an,aO,cW,Av,pu⟩:=hW;have fp:=sv0 W rows.length (by omega);rw [aO] at fp;have aD:∃W1,W1=W.alloc (.cells (bV (List.replicate rows.length false)) 4)/\Below W.heap.size W W1/\W1.heap.size=w.heap.size+4/\W1.heap[w.heap.size+3]? =some (.cells (bV (List.replicate rows.length false)) 4 (0,0)):=⟨_,rfl,(Pb _ _).alloc (P6 _) _,by simp [aO],by have:=PF W (.cells (bV (List.replicate rows.length false)) 4);rwa [aO] at this⟩;obtain ⟨W1,aD,hb1,bH,mC⟩:=aD;rw [<-aD] at fp;have aR:Below w.heap.size w W1:=an.trans (hb1.mono an.size);have CM:=L4 F t fY W1 S _ (w.heap.size+3) (List.replicate rows.length false) (λy hy=>by have:=hS y hy;omega) (PL.below (OZ.of aR hS) (λ_ h=>h) F _ _ hx) mC (λr hr=>by rw [Tq];exact oQ r hr) (by rw [Tq];exact hl);rw [Tq] at CM;have d0:=P0 (i:=0) ((hb1.block _ (by omega)).trans cW) rfl;have d1:=P0 (i:=1) ((hb1.block _ (by omega)).trans cW) rfl;have d2:=P0 (i:=2) ((hb1.block _ (by omega)).trans cW) rfl;have d3:=P0 (i:=3) ((hb1.block _ (by omega)).trans cW) rfl;have d4:=P0 (i:=4) ((hb1.block _ (by omega)).trans cW) rfl;have nL:Hid (rows≠[]->∃g o,fP=some ⟨g,o,none⟩/\rows.length<=ci/\∀j (h:j<rows.length),S g/\∃ad cap,w.cell? ⟨g,o+j*1,none⟩=some (.slice ad rows[j].length cap)/\Pl w S (.slice ad rows[j].length cap) rows[j]):=eR;have HX:Hid (∀w2,Kx (w.heap.size+3) W1 w2->w2.heap[w.heap.size+3]? =some (.cells (bV (Qf (List.replicate rows.length false) (Py F t))) 4 (0,0))->w.heap.size+4<=w2.heap.size/\Below w.heap.size w w2/\w2.heap[w.heap.size]? =some (.cells #[.int .i64 a,.int .i64 b',.slice pa pl pc,.slice ca cl cc,.slice ea el ec] 30 (0,0))/\w2.heap[w.heap.size+1]? =some (.cells #[.bool false,.slice none 0 0,.slice none 0 0] 33 (0,0))/\w2.heap[w.heap.size+3]? =some (.cells (bV (Qf (List.replicate rows.length false) (Py F t))) 4 (0,0))/\Cy w2 (w.heap.size+2) (Qf (List.replicate rows.length false) (Py F t)) 0 (.slice none 0 0) w2):=λw2 hk2 hm2=>by
  have h4:w.heap.size+4<=w2.heap.size:=by have:=hk2.size;omega
  have hB:∀y,y<w.heap.size+3->w2.heap[y]? =W.heap[y]? :=λy hy=>(hk2.block y (by omega) (by omega)).trans (hb1.block y (by omega));exact ⟨h4,⟨hk2.os.trans aR.os,hk2.tape.trans aR.tape,hk2.output.trans aR.output,by omega,λy hy=>(hB y (by omega)).trans (an.block y hy)⟩,(hB _ (by omega)).trans cW,(hB _ (by omega)).trans Av,hm2,Kx.refl _ _,by omega,(hB _ (by omega)).trans pu,U4 _ _ _ _⟩
 have eO:Hid (Sm F t/\SD k fs (rows.headD []).length F t []/\PH w S (.slice fa fs.length fc) fs/\PL w S F (.agg #[.int .i64 a,.int .i64 b',.slice pa pl pc,.slice ca cl cc,.slice ea el ec]) t/\∀b,S b->b<w.heap.size):=⟨fY,jy,ee,hx,hS⟩;have Aw:Hid (Pf (Qf (List.replicate rows.length false) (Py F t)) rows.length=(List.range rows.length).filter λr=> !(Py F t).contains r):=FN t rows.length;have dS:(Qf (List.replicate rows.length false) (Py F t)).length=rows.length:=by rw [TX,Tq]
 have F2:Hid ((Qf (List.replicate rows.length false) (Py F t)).length=rows.length):=dS;clear fY jy ee hx hS oQ dS aR mC bH hb1 Av cW pu aO an hR eR;have kA:Hid (∀r∈rows,r.length<=16):=cj;clear cj aD;generalize hbs:Qf (List.replicate rows.length false) (Py F t)=bs at *
 clear hbs;go_enter Tryz.func25,Tryz.ntmps25
 go_upto_region 2 with fail
 rw [<-hW];clear hW
 go_upto_region 5 with (first | (go_at_call 46;(with_reducible refine Pe CM ?_);rintro e' w2 ⟨rfl,hk2,hm2⟩))
 have H3:Hid (w.heap.size+4<=w2.heap.size/\Below w.heap.size w w2/\w2.heap[w.heap.size]? =some (.cells #[.int .i64 a,.int .i64 b',.slice pa pl pc,.slice ca cl cc,.slice ea el ec] 30 (0,0))/\w2.heap[w.heap.size+1]? =some (.cells #[.bool false,.slice none 0 0,.slice none 0 0] 33 (0,0))/\w2.heap[w.heap.size+3]? =some (.cells (bV bs) 4 (0,0))/\Cy w2 (w.heap.size+2) bs 0 (.slice none 0 0) w2):=HX.out w2 hk2 hm2;clear hk2 hm2 CM HX d0 d1 d2 d3 d4 fp;obtain ⟨i0,d7,c8,bK,bJ⟩:=info_parts Tryz.info3
 go_loopw [9] (λiv wr=>∃(i:Nat) (v:Value),i<=rows.length/\iv= .int .i64 i/\Hid (Cy w2 (w.heap.size+2) bs i v wr)) (λiv _=>rows.length-(intOf iv).toNat)
 case atStart=>exact ⟨0,_,by omega,by go_num,H3.out.2.2.2.2.2⟩
 obtain ⟨i,v,hi,rfl,HC⟩:=hrel;have Be:w.heap.size+4<=w2.heap.size:=H3.out.1;by_cases ag:i<rows.length
 ·have lD:i<bs.length:=by have:=F2.out;omega
  have q:=P0 ((HC.out.kx.block (w.heap.size+3) (by omega) (by omega)).trans H3.out.2.2.2.2.1) (OC lD);have i1:(0:Int)<=(i:Int):=by omega
  have i2:(i:Int)<(rows.length:Int):=by omega
  cases hb:bs[i] with
  | true=>
   rw [hb] at q;have bx:Hid (Cy w2 (w.heap.size+2) bs (i+1) v wr):=HC.out.skip lD hb;clear hb;go_wp2;exact ⟨⟨i+1,v,ag,by go_num,bx.out⟩,by simp [intOf];omega⟩
  | false=>
   rw [hb] at q;have dA:Hid (bs[i]=false/\i<bs.length):=⟨hb,lD⟩;have c1:=P0 (i:=1) HC.out.blk rfl;have hown:=HC.out.own;have aT:=HC.out.kx.size;have dM:(Pf bs i).length<=200:=by
    have:(Pf bs i).length<=i:=by
     unfold Pf;exact PZ (T8 _ _) (by simp)
    omega
   clear hb
   go_wp2_with (at_builtin;refine wpList_append_lies _ rfl _ _ 26 rfl w2.heap.size 3 i0 _ 1 8 Tryz.underlying26 d7 c8 bK bJ rfl (by decide) _ _ _ rfl (hown.alloc _) ⟨wr.heap.size,0,none⟩ 1 1 [.int .i64 i] rfl rfl (World.news_of_block (Qn wr _)) (by intro u hu;simp at hu;subst hu;rfl) (by omega) (by unfold maxLen;omega) (by omega) (by simp;omega) (wr.heap.size+1) (by simp) ?_;intro g5 cap5 w5 b8 bC cr dr;obtain ⟨hblk5,uS⟩:=HC.out.put dA.out.2 dA.out.1 b8 bC;have y1:=P0 (i:=1) hblk5 rfl;have z1:=Pp (o:=1) hblk5)
   exact ⟨⟨i+1,_,ag,by go_num,uS⟩,by simp [intOf];omega⟩
 obtain rfl:i=rows.length:=by omega
 have kG:=eO.out;have aT:=HC.out.kx.size;have az:Below w.heap.size w wr:=H3.out.2.1.trans ⟨HC.out.kx.os,HC.out.kx.tape,HC.out.kx.output,aT,λy hy=>HC.out.kx.block y (by omega) (by omega)⟩;have e1:=(HC.out.kx.block w.heap.size (by omega) (by omega)).trans H3.out.2.2.1;have e2:=(HC.out.kx.block (w.heap.size+1) (by omega) (by omega)).trans H3.out.2.2.2.1;obtain ⟨dx,b9,rfl⟩:∃ad cap,v= .slice ad (Pf bs rows.length).length cap:=by
  obtain ⟨ad,cap,e,_⟩:=HC.out.nats (w':=wr) (S:=λ_=>True) (λ_ _ _=>rfl) (P6 _) (λ_ _ _=>trivial);exact ⟨ad,cap,e⟩
 have bD:Hid (Below w.heap.size w wr/\wr.heap[w.heap.size+1]? =some (.cells #[.bool false,.slice none 0 0,.slice none 0 0] 33 (0,0))/\wr.heap[w.heap.size+2]? =some (.cells #[.bool false,.slice dx (Pf bs rows.length).length b9,.slice none 0 0] 33 (0,0))/\wr.heap[w.heap.size]? =some (.cells #[.int .i64 a,.int .i64 b',.slice pa pl pc,.slice ca cl cc,.slice ea el ec] 30 (0,0))/\w.heap.size+4<=wr.heap.size):=⟨az,e2,HC.out.blk,e1,by omega⟩;have C8:∀y,S y->y<wr.heap.size:=λy hy=>PQ (kG.2.2.2.2 y hy) az.size;by_cases dP:rows=[]
 all_goals
  first
  | (
   have cH:¬((0:Int)<(rows.length:Int)):=by rw [dP];simp
   have gy:(rows.headD []).length=0:=by rw [dP];rfl
   have CW:=xm1 (F:=F) (S:=S) (rows.headD []).length (by omega) C8;rw [gy] at CW;have lH:Hid ((rows.headD []).length=0):=gy;clear dP gy kG az e1 e2 C8;have HM:Hid (∀va vc w3,Below wr.heap.size wr w3->Pl w3 (λy=>S y\/(wr.heap.size<=y/\y<w3.heap.size)) (.slice va 0 vc) (Sg F 0 []).kids->_):=λva vc w3 h1 h2=>xn1 aF aY hF eO.out.1 (n:=0) (by omega) (by have:=eO.out.2.1;rwa [lH.out] at this) eO.out.2.2.2.2 eO.out.2.2.1 eO.out.2.2.2.1 bD.out.1 h1 h2)
  | (
   have cH:0<rows.length:=Tk.2 dP;obtain ⟨rg,ro,rfl,fF,eR⟩:=nL.out dP;obtain ⟨F3,oS,ju,q0,pL⟩:=eR 0 cH;have rr:rows.headD []=rows[0]:=by
    cases rows with
    | nil=>simp at cH
    | cons a r=>rfl
   have h16:(rows.headD []).length<=16:=by rw [rr];exact kA.out rows[0] (Px cH)
   have q:wr.cell? ⟨rg,ro,none⟩=some (.slice oS (rows.headD []).length ju):=by
    have h1:w.cell? ⟨rg,ro,none⟩=some (.slice oS rows[0].length ju):=by simpa using q0
    rw [rr];exact (az.cell (p:=⟨rg,ro,none⟩) (kG.2.2.2.2 rg F3)).trans h1
   have CW:=xm1 (F:=F) (S:=S) (rows.headD []).length h16 C8;have i1:(0:Int)<(rows.length:Int):=by omega
   clear dP kG az e1 e2 C8 eR q0 rr pL cH;obtain ⟨n0,gy⟩:∃n0,n0=(rows.headD []).length:=⟨_,rfl⟩;rw [<-gy] at q CW h16;have lH:Hid ((rows.headD []).length=n0):=gy.symm;clear gy;have HM:Hid (∀va vc w3,Below wr.heap.size wr w3->Pl w3 (λy=>S y\/(wr.heap.size<=y/\y<w3.heap.size)) (.slice va n0 vc) (Sg F n0 []).kids->_):=λva vc w3 h1 h2=>xn1 aF aY hF eO.out.1 (n:=n0) h16 (by have:=eO.out.2.1;rwa [lH.out] at this) eO.out.2.2.2.2 eO.out.2.2.1 eO.out.2.2.2.1 bD.out.1 h1 h2)
 all_goals
  go_upto_region 14 with (first | (go_at_call 47;(with_reducible refine Pe CW ?_);rintro e' w3 ⟨va,vc,rfl,hb3,hv3⟩;have CM:=HM.out va vc w3 hb3 hv3;have f0:=(hb3.block w.heap.size (by have:=bD.out.2.2.2.2;omega)).trans bD.out.2.2.2.1;have d0:=P0 (i:=0) f0 rfl;have d1:=P0 (i:=1) f0 rfl;have d2:=P0 (i:=2) f0 rfl;have d3:=P0 (i:=3) f0 rfl;have d4:=P0 (i:=4) f0 rfl) | (go_at_call 48;(with_reducible refine Pe CM ?_);rintro e' w4 ⟨oa,ol,oc,bb,rfl,hb4,HR4⟩))
  have aW:=bD.out;have p9:Below wr.heap.size wr w4:=hb3.trans (hb4.mono hb3.size);have oR:w4.heap[w.heap.size+1+1]? =some (.cells #[.bool false,.slice dx (Pf bs rows.length).length b9,.slice none 0 0] 33 (0,0)):=(p9.block (w.heap.size+2) (by omega)).trans aW.2.2.1;have gR:=(p9.block (w.heap.size+1) (by omega)).trans aW.2.1;have bY:Below w.heap.size w w4:=aW.1.trans (p9.mono aW.1.size);have y0:=P0 (i:=0) oR rfl;have z0:=Pp (o:=0) oR;have cZ:Hid (Below wr.heap.size wr w4):=p9;have C9:Hid ((bb=false/\Qx k fs F t=none)\/(bb=true/\ol=(rows.headD []).length/\∃y,Qx k fs F t=some y/\Pl w4 (λy=>S y\/(wr.heap.size<=y/\y<w4.heap.size)) (.slice oa (rows.headD []).length oc) (Sg F (rows.headD []).length y).kids)):=(by rw [lH.out];exact HR4.out);clear HR4 hb4 hb3 hv3 p9 aW CM f0 d0 d1 d2 d3 d4;cases bb with
  | true=>
   have dF:=Q5 (i:=0) (v:= .bool false) oR;obtain ⟨W5,cQ⟩:∃W5,W5=w4.setCell ⟨w.heap.size+1+1,0,none⟩ (.bool false):=⟨_,rfl⟩;rw [<-cQ] at dF;have iI:W5.heap.size=w4.heap.size:=by rw [cQ];simp [World.setCell]
   have gS:∀y,y≠w.heap.size+1+1->W5.heap[y]? =w4.heap[y]? :=λy hy=>by rw [cQ];exact PX _ _ _ _ hy
   have hb5:Below w.heap.size w W5:=by rw [cQ];exact bY.setCell (p:=⟨w.heap.size+1+1,0,none⟩) (by show w.heap.size<=w.heap.size+1+1;omega) _
   have y2:=P0 (i:=2) dF rfl;have z2:=Pp (o:=2) dF;have oT:=Q5 (i:=2) (v:= .slice oa ol oc) dF;obtain ⟨W6,pK⟩:∃W6,W6=W5.setCell ⟨w.heap.size+1+1,2,none⟩ (.slice oa ol oc):=⟨_,rfl⟩;rw [<-pK] at oT;have AA:W6.heap.size=w4.heap.size:=by rw [pK,<-iI];simp [World.setCell]
   have FL:∀y,y≠w.heap.size+1+1->W6.heap[y]? =w4.heap[y]? :=λy hy=>by rw [pK,<-gS y hy];exact PX _ _ _ _ hy
   have hb6:Below w.heap.size w W6:=by rw [pK];exact hb5.setCell (p:=⟨w.heap.size+1+1,2,none⟩) (by show w.heap.size<=w.heap.size+1+1;omega) _
   have fA:=(FL (w.heap.size+1) (by omega)).trans gR;obtain ⟨U,hU,aG,aZ,bj,aP⟩:=IV hb6 fA (by omega) (.bool false) (.slice dx (Pf bs rows.length).length b9) (.slice oa ol oc);have r0:=P0 (i:=0) fA rfl;have r1:=P0 (i:=1) fA rfl;have r2:=P0 (i:=2) fA rfl;have f0:=Pp (o:=0) fA;have f1:=Pp (o:=1) fA;have f2:=Pp (o:=2) fA;have t0:=P0 (i:=0) oT rfl;have t1:=P0 (i:=1) oT rfl;have t2:=P0 (i:=2) oT rfl;have dj:Hid (MD F (Rq F k fs F t rows) S w (.returned (.agg #[.bool false,.slice dx (Pf bs rows.length).length b9,.slice oa ol oc])) U):=N5 (bb:=true) Aw.out eO.out.2.2.2.2 H3.out.1 HC.out cZ.out aZ (bj.trans AA) (λj h1 h2=>(aP j h1).trans (FL j h2)) C9.out;clear cZ C9 iI gS hb5 AA FL hb6 fA aZ bj aP oR dF oT gR bY;generalize (Pf bs rows.length).length=L at *
   go_upto_region 16 with fail
   rw [<-cQ];clear cQ y0 z0
   go_upto_region 17 with fail
   rw [<-pK];clear pK y2 z2;go_wp2;rw [<-hU];have u0:=P0 (i:=0) aG rfl;have u1:=P0 (i:=1) aG rfl;have u2:=P0 (i:=2) aG rfl;refine Qv (v:= .agg #[.bool false,.slice dx L b9,.slice oa ol oc]) (by simp [results,Tryz.results25,go_sem,u0,u1,u2]) rfl ?_;exact dj.out
  | false=>
   have dF:=Q5 (i:=0) (v:= .bool true) oR;obtain ⟨W5,cQ⟩:∃W5,W5=w4.setCell ⟨w.heap.size+1+1,0,none⟩ (.bool true):=⟨_,rfl⟩;rw [<-cQ] at dF;have iI:W5.heap.size=w4.heap.size:=by rw [cQ];simp [World.setCell]
   have gS:∀y,y≠w.heap.size+1+1->W5.heap[y]? =w4.heap[y]? :=λy hy=>by rw [cQ];exact PX _ _ _ _ hy
   have hb5:Below w.heap.size w W5:=by rw [cQ];exact bY.setCell (p:=⟨w.heap.size+1+1,0,none⟩) (by show w.heap.size<=w.heap.size+1+1;omega) _
   have fA:=(gS (w.heap.size+1) (by omega)).trans gR;obtain ⟨U,hU,aG,aZ,bj,aP⟩:=IV hb5 fA (by omega) (.bool true) (.slice dx (Pf bs rows.length).length b9) (.slice none 0 0);have r0:=P0 (i:=0) fA rfl;have r1:=P0 (i:=1) fA rfl;have r2:=P0 (i:=2) fA rfl;have f0:=Pp (o:=0) fA;have f1:=Pp (o:=1) fA;have f2:=Pp (o:=2) fA;have t0:=P0 (i:=0) dF rfl;have t1:=P0 (i:=1) dF rfl;have t2:=P0 (i:=2) dF rfl;have dj:Hid (MD F (Rq F k fs F t rows) S w (.returned (.agg #[.bool true,.slice dx (Pf bs rows.length).length b9,.slice none 0 0])) U):=N5 (bb:=false) Aw.out eO.out.2.2.2.2 H3.out.1 HC.out cZ.out aZ (bj.trans iI) (λj h1 h2=>(aP j h1).trans (gS j h2)) C9.out;clear cZ C9 iI gS hb5 fA aZ bj aP oR dF gR bY;generalize (Pf bs rows.length).length=L at *
   go_upto_region 15 with fail
   rw [<-cQ];clear cQ y0 z0;go_wp2;rw [<-hU];have u0:=P0 (i:=0) aG rfl;have u1:=P0 (i:=1) aG rfl;have u2:=P0 (i:=2) aG rfl;refine Qv (v:= .agg #[.bool true,.slice dx L b9,.slice none 0 0]) (by simp [results,Tryz.results25,go_sem,u0,u1,u2]) rfl ?_;exact dj.out
end
