import Derived.Test.YtpdmkhnonbbhnaaGreatMex
import Derived.Test.YtpdmkhnonbbhnaaGreatMkx
namespace Go.Proofs.YtpdmkhnonbbhnaaGreat
open Go.RowKit
set_option maxHeartbeats 16000000
set_option maxRecDepth 10000
section
variable {w:World}{S:Nat->Prop}{ad:Option Addr}{n cap:Nat}
theorem Vf (p:Pt):Pm p=(decide (p.kind=1) || decide (p.kind=2)):=by
 unfold Pm;by_cases h1:p.kind=1<;>by_cases h2:p.kind=2<;>simp [h1,h2]
theorem Mc {x:Value}{p:Pt}(hx:TP w S x p):Calls Tryz.prog 63 #[x] w λr w'=>r= .returned (.bool (Pm p))/\Below w.heap.size w w':=by
 obtain ⟨ad,cap,rfl,_⟩:=hx;have hw:=Vf p;have HB:Hid (Below w.heap.size w (w.alloc (Obj.cells #[.int .i64 p.kind,.string ⟨p.name.toArray⟩,.int .i64 p.num,.slice ad p.kids.length cap] 50))):=(Pb _ _).alloc (P6 _) _;generalize Pm p=b at *
 generalize p.kind=k at *
 by_cases h1:k=1
 ·subst h1;obtain rfl:b=true:=by simpa using hw
  clear hw;go_enter Tryz.func63,Tryz.ntmps63;go_wp2;go_ret;exact ⟨rfl,HB.out⟩
 by_cases h2:k=2
 ·subst h2;obtain rfl:b=true:=by simpa using hw
  clear hw;go_enter Tryz.func63,Tryz.ntmps63;go_wp2;go_ret;exact ⟨rfl,HB.out⟩
 obtain rfl:b=false:=by simpa [h1,h2] using hw
 clear hw;go_enter Tryz.func63,Tryz.ntmps63;go_wp2;go_ret;refine ⟨?_,HB.out⟩;show Ending.returned (.bool (k==1 || k==2))=_;rw [show (k==1)=false by simpa using h1,show (k==2)=false by simpa using h2]
 rfl
theorem PC.rowAt {Z:Nat->Prop}{R:List Rw}(h:PC Qc w Z S (.slice ad n cap) R){i:Nat}(hi:i<R.length):∃g o,ad=some ⟨g,o,none⟩/\R.length<=cap/\Z g/\w.cell? ⟨g,o+i*2,none⟩=some (.int .i64 R[i].1)/\∃pa pc,w.cell? ⟨g,o+i*2+1,none⟩=some (.slice pa R[i].2.length pc)/\Pl w S (.slice pa R[i].2.length pc) R[i].2:=by
 rcases h with ⟨rfl,_⟩ | ⟨g,o,cap',e,h0,h1,h2⟩
 ·simp at hi
 injection e with e1 e2 e3;subst e1 e3;obtain ⟨z,cs,⟨pa,pc,rfl,hp⟩,hc⟩:=h2 i hi;exact ⟨g,o,rfl,h1,z,hc 0 (by decide),pa,pc,hc 1 (by decide),hp⟩
theorem Pl.at {ps:List Pt}(h:Pl w S (.slice ad n cap) ps){i:Nat}(hi:i<ps.length):∃g o,ad=some ⟨g,o,none⟩/\ps.length<=cap/\S g/\w.cell? ⟨g,o+i*4,none⟩=some (.int .i64 ps[i].kind)/\w.cell? ⟨g,o+i*4+1,none⟩=some (.string ⟨ps[i].name.toArray⟩)/\w.cell? ⟨g,o+i*4+2,none⟩=some (.int .i64 ps[i].num)/\∃pa pc,w.cell? ⟨g,o+i*4+3,none⟩=some (.slice pa ps[i].kids.length pc)/\TP w S (.agg #[.int .i64 ps[i].kind,.string ⟨ps[i].name.toArray⟩,.int .i64 ps[i].num,.slice pa ps[i].kids.length pc]) ps[i]:=by
 rcases h with ⟨rfl,_⟩ | ⟨g,o,cap',e,h0,h1,h2⟩
 ·simp at hi
 injection e with e1 e2 e3;subst e1 e3;obtain ⟨z,a0,a1,a2,l1,l2,pa,pc,a3,hp⟩:=(h2 i hi).open;exact ⟨g,o,rfl,h1,z,a0,a1,a2,pa,pc,a3,pa,pc,rfl,l1,l2,hp⟩
def Zk (o:Option Nat):Int:=match o with
 | some c=>c
 | none=>-1
theorem uu1 {α:Type}{P:α->Bool}{l:List α}{i:Nat}(hi:i<l.length)(h:∀x∈l.take i,P x=false):(P l[i]=true->l.findIdx? P=some i)/\(P l[i]=false->∀x∈l.take (i+1),P x=false):=by
 refine ⟨λhp=> ?_,λhp x hx=> ?_⟩
 ·rw [SP];refine ⟨hi,hp,λj hj hq=> ?_⟩;have:=h l[j] (Yr.2 ⟨j,by omega,rfl⟩);rw [this] at hq;cases hq
 rw [S1,PR hi] at hx;rcases PE.1 hx with hx | hx
 ·exact h x hx
 rw [show x=l[i] by simpa using hx];exact hp
theorem KV (N:Int)(pv:Value)(ps:List Pt)(hS:∀y,S y->y<w.heap.size)(hp:Pl w S pv ps)(hl:ps.length<=1000000):
  Calls Tryz.prog 38 #[.agg #[.int .i64 N,pv]] w λr w'=>r= .returned (.int .i64 (Zk (ps.findIdx? λp=> !Pm p)))/\Below w.heap.size w w':=by
 obtain ⟨ad,cap,rfl⟩:=Pd.len hp;have HS:=P4 hS;have HP:=P4 hp;have dE:Hid (Below w.heap.size w (w.alloc (Obj.cells #[.int .i64 N,.slice ad ps.length cap] 60))):=(Pb _ _).alloc (P6 _) _;have cu:(w.alloc (Obj.cells #[.int .i64 N,.slice ad ps.length cap] 60)).heap[w.heap.size]? =some (Obj.cells #[.int .i64 N,.slice ad ps.length cap] 60):=PF _ _;have eh:(w.alloc (Obj.cells #[.int .i64 N,.slice ad ps.length cap] 60)).heap.size=w.heap.size+1:=by simp
 clear hS hp;go_enter Tryz.func38,Tryz.ntmps38;go_wp2;generalize hW:w.alloc (Obj.cells #[.int .i64 N,.slice ad ps.length cap] 60)=W at *
 go_loopw [3,4] (λiv _ wr=>∃i:Nat,i<=ps.length/\iv= .int .i64 i/\Hid (Below W.heap.size W wr)/\Hid (∀p∈ps.take i,(!Pm p)=false)) (λiv _ _=>ps.length-(intOf iv).toNat)
 case atStart=>exact ⟨0,by omega,by go_num,Pb _ _,λp hp=>by simp at hp⟩
 obtain ⟨i,hi,rfl,HB,HM⟩:=hrel;have aE:wr.heap[w.heap.size]? =some (Obj.cells #[.int .i64 N,.slice ad ps.length cap] 60):=(HB.block _ (by omega)).trans cu;have y1:wr.cell? ⟨w.heap.size,1,none⟩=some (.slice ad ps.length cap):=by
  unfold World.cell?;rw [aE]
  rfl
 have az:Below w.heap.size w wr:=dE.trans (HB.mono dE.size);have dB:=P4 az;by_cases ag:i<ps.length
 ·obtain ⟨g,o,rfl,aM,_,a0,a1,a2,pa,pc,a3,hv⟩:=(HP.on (OZ.of az HS.out)).at ag;have i1:(0:Int)<=(i:Int):=by omega
  have i2:(i:Int)<(ps.length:Int):=by omega
  have CW:=Mc hv;have HF:Hid _:=uu1 ag HM.out;generalize ps[i]=p at *
  clear az aE;cases hwp:Pm p with
  | true=>
   rw [hwp] at CW HF
   go_wp2_with (go_at_call 63;(with_reducible refine Pe CW ?_);rintro e' w1 ⟨rfl,hb1⟩)
   have bI:=P4 (HB.trans (hb1.mono HB.size));clear hb1 CW;go_wp2
   go_roundw
   case rel=>exact ⟨i+1,ag,by go_num,bI.out,HF.2 rfl⟩
   case measure=>simp [intOf];omega
  | false=>
   rw [hwp] at CW HF;have HR:Hid (Zk (ps.findIdx? λp=> !Pm p)=i):=by
    show _=_;rw [HF.out.1 rfl]
    rfl
   go_wp2_with (go_at_call 63;(with_reducible refine Pe CW ?_);rintro e' w1 ⟨rfl,hb1⟩)
   have bI:=P4 (dB.trans (hb1.mono dB.size));clear hb1 CW;go_wp2;go_ret;rw [HR.out];exact ⟨rfl,bI.out⟩
 obtain rfl:i=ps.length:=by omega
 have HR:Hid (Zk (ps.findIdx? λp=> !Pm p)= -1):=by
  have:ps.findIdx? (λp=> !Pm p)=none:=by
   rw [YY];intro p hp;exact HM.out p (by rwa [QM])
  show _=_;rw [this]
  rfl
 go_wp2;go_ret;rw [HR.out];exact ⟨rfl,dB.out⟩
end
section
variable {S:Nat->Prop}{B c i:Nat}{wr w:World}{R:List Rw}
theorem Ge {w2:World}{v:Value}{out:List Rw}(HO:Pi Qc 60 B S wr v out){ad:Option Addr}{cap N:Nat}{ps:List Pt}(hB:B<=wr.heap.size)(hp:Pl w2 (λy=>S y\/(wr.heap.size<=y/\y<w2.heap.size)) (.slice ad ps.length cap) ps):Qc.C w2 (RL S B w2 v) [.int .i64 N,.slice ad ps.length cap] (N,ps):=
 ⟨ad,cap,rfl,hp.up λy hy=>hy.imp id λh=>⟨by omega,h.2,λe=>by have:=(HO.lt y e).2;omega⟩⟩
theorem Ke {sel:Rw->Option (List Pt)}(hi:i<R.length):Pw sel c (R.take (i+1))=Pw sel c (R.take i)++(match sel R[i] with | none=> [] | some ins=> [(R[i].1,Qd R[i].2 c ins)]):=by
 rw [S1,PR hi];unfold Pw;rw [WL]
 congr 1
 show List.filterMap _ [R[i]]=_;cases h:sel R[i] with
 | none=>rw [NI (by rw [h];rfl)];rfl
 | some ins=>rw [NK (by rw [h];rfl)];rfl
theorem Oz (lv iv:Value)(ps is:List Pt)(c:Nat)(hB:B<=w.heap.size)(hS:∀y,S y->y<B)(hp:Pl w S lv ps)(hi:Pl w (λy=>S y\/(B<=y/\y<w.heap.size)) iv is)(hc:c<ps.length)(hl:ps.length+is.length<=1000000):
  Calls Tryz.prog 64 #[lv,.int .i64 c,iv] w λr w'=>∃ad cap,r= .returned (.slice ad (Qd ps c is).length cap)/\Below w.heap.size w w'/\Pl w' (λy=>S y\/(B<=y/\y<w'.heap.size)) (.slice ad (Qd ps c is).length cap) (Qd ps c is):=by
 refine Pe (XU lv iv ps is c (S:=λy=>S y\/(B<=y/\y<w.heap.size)) (λy hy=>by
  rcases hy with hy | hy
  ·have:=hS y hy;omega
  exact hy.2) (hp.up λ_ h=> .inl h) hi hc hl) ?_
 rintro r w' ⟨v,rfl,hb,ho⟩;obtain ⟨ad,cap,rfl⟩:=ho.len;refine ⟨ad,cap,rfl,hb,ho.rowE.toPats.up λy hy=> ?_⟩;rcases hy with hy | hy | hy
 ·have:=ho.lt y hy;exact .inr ⟨by omega,this.2⟩
 ·exact .inl hy
 exact .inr ⟨hy.1,PQ hy.2 hb.size⟩
theorem MR (hS:∀y,S y->y<wr.heap.size){g o i N:Nat}{x:Value}(sg:S g)(r0:wr.cell? ⟨g,o+i*2,none⟩=some (.int .i64 N))(r1:wr.cell? ⟨g,o+i*2+1,none⟩=some x):∀W',Below wr.heap.size wr W'->W'.cell? ⟨g,o+i*2,none⟩=some (.int .i64 N)/\W'.cell? ⟨g,o+i*2+1,none⟩=some x:=λ_ hb=>
 ⟨((OZ.of hb hS).cell (p:=⟨g,o+i*2,none⟩) sg).trans r0,((OZ.of hb hS).cell (p:=⟨g,o+i*2+1,none⟩) sg).trans r1⟩
theorem KF {sel:Rw->Option (List Pt)}:(Pw sel c (R.take i)).length<=i:=by
 unfold Pw;exact PZ (XH _ _) (by rw [RW];omega)
theorem px0 (rv:Value)(R:List Rw)(c:Nat)(hS:∀y,S y->y<w.heap.size)(hR:PC Qc w S S rv R)(hw:∀r∈R,c<r.2.length)(hl:R.length<=1000000)(bo:∀r∈R,r.2.length<=1000000):
  Calls Tryz.prog 45 #[rv,.int .i64 c] w λr w'=>∃v,r= .returned v/\Below w.heap.size w w'/\Pi Qc 60 w.heap.size S w' v (RA R c):=by
 obtain ⟨ad,cap,rfl⟩:=Pd.len hR;have HS:Hid (∀y,S y->y<w.heap.size):=hS;have HR:Hid (PC Qc w S S (.slice ad R.length cap) R):=hR;have HW:Hid (∀r∈R,c<r.2.length/\r.2.length<=1000000):=λr hr=>⟨hw r hr,bo r hr⟩;clear hS hR hw bo;go_enter Tryz.func45,Tryz.ntmps45;go_wp2
 go_loopw [5,6,7,8] (λv iv _ _ wr=>∃i:Nat,i<=R.length/\iv= .int .i64 i/\Hid (Below w.heap.size w wr)/\Hid (Pi Qc 60 w.heap.size S wr v (Pw (TH c) c (R.take i)))) (λ_ iv _ _ _=>R.length-(intOf iv).toNat)
 case atStart=>exact ⟨0,by omega,by go_num,Pb _ _,Pi.nil _ _ _ _ _⟩
 obtain ⟨i,hi,rfl,HB,HO⟩:=hrel;by_cases ag:i<R.length
 ·have hk:OZ S w wr:=OZ.of HB.out HS.out;have gO:Hid (∀y,S y->y<wr.heap.size):=λy hy=>PQ (HS.out y hy) HB.out.size;obtain ⟨g,o,rfl,aM,sg,r0,pa,pc,r1,hp⟩:=(HR.out.on hk hk (λ_ h=>h) λ_ h=>h).rowAt ag;have aW:=HW.out _ (Px ag);obtain ⟨g',o',rfl,gA,_,a0,a1,a2,qa,qc,a3,hv⟩:=hp.at aW.1;have i1:(0:Int)<=(i:Int):=by omega
  have i2:(i:Int)<(R.length:Int):=by omega
  have c1:(0:Int)<=(c:Int):=by omega
  have c2:(c:Int)<(R[i].2.length:Int):=by omega
  have cS:TH c R[i]=if Pm (R[i].2[c]'aW.1) then some [] else none:=by
   unfold TH;rw [PR aW.1]
  have eo:=Ke (sel:=TH c) (c:=c) ag;rw [cS] at eo;have CW:=Mc hv;have tW:Hid ((Pw (TH c) c (R.take i)).length<=i):=KF;have mJ:Hid _:=MR gO.out sg r0 r1;have lG:Hid (Pl wr S (.slice (some ⟨g',o',none⟩) R[i].2.length pc) R[i].2):=hp;clear cS hp hv hk sg;generalize R[i].2[c]'aW.1=q at *
  have bo:=aW.2;have bg:=aW.1;clear aW;cases hwq:Pm q with
  | true=>
   rw [hwq] at CW;have bu:Hid (Pw (TH c) c (R.take (i+1))=Pw (TH c) c (R.take i)++[(R[i].1,Qd R[i].2 c [])]):=by
    rw [hwq] at eo;exact eo
   clear eo;have CP:∀W',Below wr.heap.size wr W'->_:=λW' aj=>Oz (B:=wr.heap.size) _ (.slice none 0 0) _ [] c aj.size gO.out (lG.out.on (OZ.of aj gO.out)) (.inl ⟨rfl,none,0,rfl⟩) bg (by simp;omega)
   go_wp2_with (first
    | (go_at_call 63;(with_reducible refine Pe CW ?_);rintro e' w1 ⟨rfl,hb1⟩;obtain ⟨f1,f2⟩:=mJ.out w1 hb1)
    | (go_at_call 64;(with_reducible refine Pe (CP _ hb1) ?_);rintro e' w2 ⟨ad2,cap2,rfl,hb2,hp2⟩;obtain ⟨f3,f4⟩:=mJ.out w2 (hb1.trans (hb2.mono hb1.size)))
    | (at_builtin;refine Ue (E:=Qc) (v:=u5) (cs:=[.int .i64 R[i].1,.slice ad2 (Qd R[i].2 c []).length cap2]) (p:=(R[i].1,Qd R[i].2 c [])) Tryz.ty57 rfl _ _ rfl rfl HO.out HS.out HB.out.size (hb1.trans (hb2.mono hb1.size)) rfl (Ge HO.out HB.out.size hp2) (P6 _) (by have:=tW.out;omega) ?_;intro v3 w3 O3 B3 _))
   rw [<-bu.out] at O3;exact ⟨⟨i+1,ag,by go_num,HB.out.trans B3,O3⟩,by simp [intOf];omega⟩
  | false=>
   rw [hwq] at CW;have bu:Hid (Pw (TH c) c (R.take (i+1))=Pw (TH c) c (R.take i)):=by
    rw [hwq] at eo;exact eo.trans (SH _)
   clear eo
   go_wp2_with (go_at_call 63;(with_reducible refine Pe CW ?_);rintro e' w1 ⟨rfl,hb1⟩)
   refine ⟨⟨i+1,ag,by go_num,HB.out.trans (hb1.mono HB.out.size),?_⟩,by simp [intOf];omega⟩;show Pi _ _ _ _ _ _ _;rw [bu.out];exact HO.out.on HS.out HB.out.size hb1
 obtain rfl:i=R.length:=by omega
 go_wp2;go_ret;refine ⟨_,rfl,HB.out,?_⟩;have:=HO.out
 rwa [QM] at this
end
def TJ (c:Nat)(n:Int)(r:Rw):Option (List Pt):=match r.2[c]? with
 | none=>none
 | some p=>if Pm p || p.num==n then some [] else none
theorem Oy {wr W0:World}{q:Pt}{qa:Option Addr}{qc:Nat}(h:W0=wr.alloc (Obj.cells #[.int .i64 q.kind,.string ⟨q.name.toArray⟩,.int .i64 q.num,.slice qa q.kids.length qc] 50)):Below wr.heap.size wr W0/\∀W',Below W0.heap.size W0 W'->Below wr.heap.size wr W'/\W'.cell? ⟨wr.heap.size,0,none⟩=some (.int .i64 q.kind)/\W'.cell? ⟨wr.heap.size,1,none⟩=some (.string ⟨q.name.toArray⟩)/\W'.cell? ⟨wr.heap.size,2,none⟩=some (.int .i64 q.num)/\W'.cell? ⟨wr.heap.size,3,none⟩=some (.slice qa q.kids.length qc):=by
 have hb:Below wr.heap.size wr W0:=by rw [h];exact (Pb _ _).alloc (P6 _) _
 have hc:W0.heap[wr.heap.size]? =some (Obj.cells #[.int .i64 q.kind,.string ⟨q.name.toArray⟩,.int .i64 q.num,.slice qa q.kids.length qc] 50 (0,0)):=by rw [h];exact PF _ _
 have hs:wr.heap.size<W0.heap.size:=PV hc;refine ⟨hb,λW' aj=> ?_⟩;have di:=(aj.block _ hs).trans hc;refine ⟨hb.trans (aj.mono hb.size),?_,?_,?_,?_⟩
 all_goals
  unfold World.cell?;rw [di]
  rfl
theorem X4 {w:World}{S:Nat->Prop}(rv:Value)(R:List Rw)(c:Nat)(n:Int)(hS:∀y,S y->y<w.heap.size)(hR:PC Qc w S S rv R)(hw:∀r∈R,c<r.2.length)(hl:R.length<=1000000)(bo:∀r∈R,r.2.length<=1000000):
  Calls Tryz.prog 41 #[rv,.int .i64 c,.int .i64 n] w λr w'=>∃v,r= .returned v/\Below w.heap.size w w'/\Pi Qc 60 w.heap.size S w' v (Pw (TJ c n) c R):=by
 obtain ⟨ad,cap,rfl⟩:=Pd.len hR;have HS:Hid (∀y,S y->y<w.heap.size):=hS;have HR:Hid (PC Qc w S S (.slice ad R.length cap) R):=hR;have HW:Hid (∀r∈R,c<r.2.length/\r.2.length<=1000000):=λr hr=>⟨hw r hr,bo r hr⟩;clear hS hR hw bo;go_enter Tryz.func41,Tryz.ntmps41;go_wp2
 go_loopw [7,8,9,10,11] (λv iv _ _ _ wr=>∃i:Nat,i<=R.length/\iv= .int .i64 i/\Hid (Below w.heap.size w wr)/\Hid (Pi Qc 60 w.heap.size S wr v (Pw (TJ c n) c (R.take i)))) (λ_ iv _ _ _ _=>R.length-(intOf iv).toNat)
 case atStart=>exact ⟨0,by omega,by go_num,Pb _ _,Pi.nil _ _ _ _ _⟩
 obtain ⟨i,hi,rfl,HB,HO⟩:=hrel;by_cases ag:i<R.length
 ·have hk:OZ S w wr:=OZ.of HB.out HS.out;have gO:Hid (∀y,S y->y<wr.heap.size):=λy hy=>PQ (HS.out y hy) HB.out.size;obtain ⟨g,o,rfl,aM,sg,r0,pa,pc,r1,hp⟩:=(HR.out.on hk hk (λ_ h=>h) λ_ h=>h).rowAt ag;have aW:=HW.out _ (Px ag);obtain ⟨g',o',rfl,gA,_,a0,a1,a2,qa,qc,a3,hv⟩:=hp.at aW.1;have i1:(0:Int)<=(i:Int):=by omega
  have i2:(i:Int)<(R.length:Int):=by omega
  have c1:(0:Int)<=(c:Int):=by omega
  have c2:(c:Int)<(R[i].2.length:Int):=by omega
  have cS:TJ c n R[i]=if Pm (R[i].2[c]'aW.1) || (R[i].2[c]'aW.1).num==n then some [] else none:=by
   unfold TJ;rw [PR aW.1]
  have eo:=Ke (sel:=TJ c n) (c:=c) ag;rw [cS] at eo;have tW:Hid ((Pw (TJ c n) c (R.take i)).length<=i):=KF;have mJ:Hid _:=MR gO.out sg r0 r1;have lG:Hid (Pl wr S (.slice (some ⟨g',o',none⟩) R[i].2.length pc) R[i].2):=hp;have bo:=aW.2;have bg:=aW.1;clear cS hp hk sg;generalize R[i].2[c]'aW.1=q at *
  clear aW;have HV:Hid (TP wr S (.agg #[.int .i64 q.kind,.string ⟨q.name.toArray⟩,.int .i64 q.num,.slice qa q.kids.length qc]) q):=hv;clear hv;obtain ⟨W0,fV⟩:∃W0,W0=wr.alloc (Obj.cells #[.int .i64 q.kind,.string ⟨q.name.toArray⟩,.int .i64 q.num,.slice qa q.kids.length qc] 50):=⟨_,rfl⟩;obtain ⟨cu,mK⟩:=Oy fV;have gX:Hid _:=mK;have CW:=Mc (HV.out.on (OZ.of cu gO.out));have CP:∀W',Below wr.heap.size wr W'->_:=λW' aj=>Oz (B:=wr.heap.size) _ (.slice none 0 0) _ [] c aj.size gO.out (lG.out.on (OZ.of aj gO.out)) (.inl ⟨rfl,none,0,rfl⟩) bg (by simp;omega);clear mK cu;by_cases pP:(Pm q || q.num==n)=true
  ·have bu:Hid (Pw (TJ c n) c (R.take (i+1))=Pw (TJ c n) c (R.take i)++[(R[i].1,Qd R[i].2 c [])]):=by
    rw [pP] at eo;exact eo
   clear eo;have HN:Hid (Pm q=false->q.num=n):=λh=>by simpa [h] using pP
   clear pP;cases hwq:Pm q with
   | true=>
    rw [hwq] at CW
    go_wp2_with (first
     | (go_at_call 63;rw [<-fV];(with_reducible refine Pe CW ?_);rintro e' w1 ⟨rfl,hb1'⟩;obtain ⟨hb1,b0,b1,b2,b3⟩:=gX.out w1 hb1';obtain ⟨f1,f2⟩:=mJ.out w1 hb1)
     | (go_at_call 64;(with_reducible refine Pe (CP _ hb1) ?_);rintro e' w2 ⟨ad2,cap2,rfl,hb2,hp2⟩;obtain ⟨f3,f4⟩:=mJ.out w2 (hb1.trans (hb2.mono hb1.size)))
     | (at_builtin;refine Ue (E:=Qc) (v:=u7) (cs:=[.int .i64 R[i].1,.slice ad2 (Qd R[i].2 c []).length cap2]) (p:=(R[i].1,Qd R[i].2 c [])) Tryz.ty57 rfl _ _ rfl rfl HO.out HS.out HB.out.size (hb1.trans (hb2.mono hb1.size)) rfl (Ge HO.out HB.out.size hp2) (P6 _) (by have:=tW.out;omega) ?_;intro v3 w3 O3 B3 _))
    rw [<-bu.out] at O3;exact ⟨⟨i+1,ag,by go_num,HB.out.trans B3,O3⟩,by simp [intOf];omega⟩
   | false=>
    rw [hwq] at CW;have bm2:Hid (q.num=n):=HN.out hwq
    go_wp2_with (first
     | (go_at_call 63;rw [<-fV];(with_reducible refine Pe CW ?_);rintro e' w1 ⟨rfl,hb1'⟩;obtain ⟨hb1,b0,b1,b2,b3⟩:=gX.out w1 hb1';obtain ⟨f1,f2⟩:=mJ.out w1 hb1;rw [bm2.out] at b2)
     | (go_at_call 64;(with_reducible refine Pe (CP _ hb1) ?_);rintro e' w2 ⟨ad2,cap2,rfl,hb2,hp2⟩;obtain ⟨f3,f4⟩:=mJ.out w2 (hb1.trans (hb2.mono hb1.size)))
     | (at_builtin;refine Ue (E:=Qc) (v:=u7) (cs:=[.int .i64 R[i].1,.slice ad2 (Qd R[i].2 c []).length cap2]) (p:=(R[i].1,Qd R[i].2 c [])) Tryz.ty57 rfl _ _ rfl rfl HO.out HS.out HB.out.size (hb1.trans (hb2.mono hb1.size)) rfl (Ge HO.out HB.out.size hp2) (P6 _) (by have:=tW.out;omega) ?_;intro v3 w3 O3 B3 _))
    rw [<-bu.out] at O3;exact ⟨⟨i+1,ag,by go_num,HB.out.trans B3,O3⟩,by simp [intOf];omega⟩
  have pP:(Pm q || q.num==n)=false:=by simpa using pP
  have bu:Hid (Pw (TJ c n) c (R.take (i+1))=Pw (TJ c n) c (R.take i)):=by
   rw [pP] at eo;exact eo.trans (SH _)
  clear eo;rw [OJ] at pP;rw [pP.1] at CW;have sN:q.num≠n:=by simpa using pP.2
  clear pP CP
  go_wp2_with (go_at_call 63;rw [<-fV];(with_reducible refine Pe CW ?_);rintro e' w1 ⟨rfl,hb1'⟩;obtain ⟨hb1,b0,b1,b2,b3⟩:=gX.out w1 hb1')
  refine ⟨⟨i+1,ag,by go_num,HB.out.trans (hb1.mono HB.out.size),?_⟩,by simp [intOf];omega⟩;show Pi _ _ _ _ _ _ _;rw [bu.out];exact HO.out.on HS.out HB.out.size hb1
 obtain rfl:i=R.length:=by omega
 go_wp2;go_ret;refine ⟨_,rfl,HB.out,?_⟩;have:=HO.out
 rwa [QM] at this
section
variable {w:World}{S:Nat->Prop}
def T3 (c:Nat)(con:Qg)(many:Nat)(r:Rw):Option (List Pt):=match r.2[c]? with
 | none=>none
 | some p=>if Pm p then some (List.replicate many Ta) else if p.name==con then some p.kids else none
theorem uv1 {B:Nat}(n:Nat)(hB:B<=w.heap.size)(hS:∀y,S y->y<B)(hn:n<=1000000):Calls Tryz.prog 47 #[.int .i64 n] w λr w'=>∃ad cap,r= .returned (.slice ad n cap)/\Below w.heap.size w w'/\Pl w' (λy=>S y\/(B<=y/\y<w'.heap.size)) (.slice ad n cap) (List.replicate n Ta):=by
 refine Pe (NW S n (λy hy=>by have:=hS y hy;omega) hn) ?_;rintro r w' ⟨v,rfl,hb,ho⟩;obtain ⟨ad,cap,e⟩:=Own.len ho;rw [Tq] at e;subst e;refine ⟨ad,cap,rfl,hb,ho.rowE.toPats.up λy hy=> ?_⟩;rcases hy with hy | hy | hy
 ·exact .inr ⟨by omega,hy.2⟩
 ·exact .inl hy
 exact .inr ⟨by omega,hy.2⟩
theorem XW (rv:Value)(R:List Rw)(c:Nat)(con:Qg)(many:Nat)(hS:∀y,S y->y<w.heap.size)(hR:PC Qc w S S rv R)(hw:∀r∈R,c<r.2.length)(hl:R.length<=1000000)(hm:many<=1000)(bo:∀r∈R,r.2.length<=500000)(eZ:∀r∈R,∀p∈r.2,p.kids.length<=500000):
  Calls Tryz.prog 44 #[rv,.int .i64 c,.string ⟨con.toArray⟩,.int .i64 many] w λr w'=>∃v,r= .returned v/\Below w.heap.size w w'/\Pi Qc 60 w.heap.size S w' v (Pw (T3 c con many) c R):=by
 obtain ⟨ad,cap,rfl⟩:=Pd.len hR;have HS:Hid (∀y,S y->y<w.heap.size):=hS;have HR:Hid (PC Qc w S S (.slice ad R.length cap) R):=hR;have HW:Hid (∀r∈R,c<r.2.length/\r.2.length<=500000):=λr hr=>⟨hw r hr,bo r hr⟩;have cf2:Hid (∀r∈R,∀p∈r.2,p.kids.length<=500000):=eZ;clear hS hR hw bo eZ;go_enter Tryz.func44,Tryz.ntmps44;go_wp2
 go_loopw [9,10] (λv iv wr=>∃i:Nat,i<=R.length/\iv= .int .i64 i/\Hid (Below w.heap.size w wr)/\Hid (Pi Qc 60 w.heap.size S wr v (Pw (T3 c con many) c (R.take i)))) (λ_ iv _=>R.length-(intOf iv).toNat)
 case atStart=>exact ⟨0,by omega,by go_num,Pb _ _,Pi.nil _ _ _ _ _⟩
 obtain ⟨i,hi,rfl,HB,HO⟩:=hrel;by_cases ag:i<R.length
 ·have hk:OZ S w wr:=OZ.of HB.out HS.out;have gO:Hid (∀y,S y->y<wr.heap.size):=λy hy=>PQ (HS.out y hy) HB.out.size;obtain ⟨g,o,rfl,aM,sg,r0,pa,pc,r1,hp⟩:=(HR.out.on hk hk (λ_ h=>h) λ_ h=>h).rowAt ag;have aW:=HW.out _ (Px ag);obtain ⟨g',o',rfl,gA,_,a0,a1,a2,qa,qc,a3,hv⟩:=hp.at aW.1;have i1:(0:Int)<=(i:Int):=by omega
  have i2:(i:Int)<(R.length:Int):=by omega
  have c1:(0:Int)<=(c:Int):=by omega
  have c2:(c:Int)<(R[i].2.length:Int):=by omega
  have cS:T3 c con many R[i]=if Pm (R[i].2[c]'aW.1) then some (List.replicate many Ta) else if (R[i].2[c]'aW.1).name==con then some (R[i].2[c]'aW.1).kids else none:=by
   unfold T3;rw [PR aW.1]
  have qL:(R[i].2[c]'aW.1).kids.length<=500000:=cf2.out _ (Px ag) _ (Px aW.1);have eo:=Ke (sel:=T3 c con many) (c:=c) ag;rw [cS] at eo;have tW:Hid ((Pw (T3 c con many) c (R.take i)).length<=i):=KF;have mJ:Hid _:=MR gO.out sg r0 r1;have lG:Hid (Pl wr S (.slice (some ⟨g',o',none⟩) R[i].2.length pc) R[i].2):=hp;have bo:=aW.2;have bg:=aW.1;clear cS hp hk sg;generalize R[i].2[c]'aW.1=q at *
  clear aW;have HV:Hid (TP wr S (.agg #[.int .i64 q.kind,.string ⟨q.name.toArray⟩,.int .i64 q.num,.slice qa q.kids.length qc]) q):=hv;clear hv;obtain ⟨W0,fV⟩:∃W0,W0=wr.alloc (Obj.cells #[.int .i64 q.kind,.string ⟨q.name.toArray⟩,.int .i64 q.num,.slice qa q.kids.length qc] 50):=⟨_,rfl⟩;obtain ⟨cu,mK⟩:=Oy fV;have gX:Hid _:=mK;have CW:=Mc (HV.out.on (OZ.of cu gO.out));clear mK cu;cases hwq:Pm q with
  | true=>
   rw [hwq] at CW;have bu:Hid (Pw (T3 c con many) c (R.take (i+1))=Pw (T3 c con many) c (R.take i)++[(R[i].1,Qd R[i].2 c (List.replicate many Ta))]):=by
    rw [hwq] at eo;exact eo
   clear eo;have CI:∀W',Below wr.heap.size wr W'->_:=λW' aj=>uv1 (w:=W') (S:=S) (B:=wr.heap.size) many aj.size gO.out (by omega);have CP:∀W' ia ic,Below wr.heap.size wr W'->Pl W' (λy=>S y\/(wr.heap.size<=y/\y<W'.heap.size)) (.slice ia many ic) (List.replicate many Ta)->_:=λW' ia ic aj aB=>Oz (B:=wr.heap.size) _ (.slice ia many ic) _ (List.replicate many Ta) c aj.size gO.out (lG.out.on (OZ.of aj gO.out)) aB bg (by simp;omega)
   go_wp2_with (first
    | (go_at_call 63;rw [<-fV];(with_reducible refine Pe CW ?_);rintro e' w1 ⟨rfl,hb1'⟩;obtain ⟨hb1,b0,b1,b2,b3⟩:=gX.out w1 hb1')
    | (go_at_call 47;(with_reducible refine Pe (CI _ hb1) ?_);rintro e' w4 ⟨ia,ic,rfl,hb4',hp4⟩;have hb4:=hb1.trans (hb4'.mono hb1.size);obtain ⟨f1,f2⟩:=mJ.out w4 hb4)
    | (go_at_call 64;(with_reducible refine Pe (CP _ _ _ hb4 hp4) ?_);rintro e' w2 ⟨ad2,cap2,rfl,hb2,hp2⟩;obtain ⟨f3,f4⟩:=mJ.out w2 (hb4.trans (hb2.mono hb4.size)))
    | (at_builtin;refine Ue (E:=Qc) (v:=u9) (cs:=[.int .i64 R[i].1,.slice ad2 (Qd R[i].2 c (List.replicate many Ta)).length cap2]) (p:=(R[i].1,Qd R[i].2 c (List.replicate many Ta))) Tryz.ty57 rfl _ _ rfl rfl HO.out HS.out HB.out.size (hb4.trans (hb2.mono hb4.size)) rfl (Ge HO.out HB.out.size hp2) (P6 _) (by have:=tW.out;omega) ?_;intro v3 w3 O3 B3 _))
   rw [<-bu.out] at O3;exact ⟨⟨i+1,ag,by go_num,HB.out.trans B3,O3⟩,by simp [intOf];omega⟩
  | false=>
   rw [hwq] at CW eo;cases hA:(q.name==con) with
   | true=>
    have bu:Hid (Pw (T3 c con many) c (R.take (i+1))=Pw (T3 c con many) c (R.take i)++[(R[i].1,Qd R[i].2 c q.kids)]):=by
     rw [hA] at eo;exact eo
    clear eo;have cb7:Hid (Pl wr S (.slice qa q.kids.length qc) q.kids):=by
     obtain ⟨_,_,e,_,_,h⟩:=HV.out;injection e with e;have e3:=congrArg (λa:Array Value=>a[3]?) e;injection e3 with e3;injection e3 with e3 _ e5;subst e3 e5;exact h
    have CP:∀W',Below wr.heap.size wr W'->_:=λW' aj=>Oz (B:=wr.heap.size) _ (.slice qa q.kids.length qc) _ q.kids c aj.size gO.out (lG.out.on (OZ.of aj gO.out)) ((cb7.out.on (OZ.of aj gO.out)).up λ_ h=> .inl h) bg (by omega)
    go_wp2_with (first
     | (go_at_call 63;rw [<-fV];(with_reducible refine Pe CW ?_);rintro e' w1 ⟨rfl,hb1'⟩;obtain ⟨hb1,b0,b1,b2,b3⟩:=gX.out w1 hb1';obtain ⟨f1,f2⟩:=mJ.out w1 hb1)
     | (go_at_call 64;(with_reducible refine Pe (CP _ hb1) ?_);rintro e' w2 ⟨ad2,cap2,rfl,hb2,hp2⟩;obtain ⟨f3,f4⟩:=mJ.out w2 (hb1.trans (hb2.mono hb1.size)))
     | (at_builtin;refine Ue (E:=Qc) (v:=u9) (cs:=[.int .i64 R[i].1,.slice ad2 (Qd R[i].2 c q.kids).length cap2]) (p:=(R[i].1,Qd R[i].2 c q.kids)) Tryz.ty57 rfl _ _ rfl rfl HO.out HS.out HB.out.size (hb1.trans (hb2.mono hb1.size)) rfl (Ge HO.out HB.out.size hp2) (P6 _) (by have:=tW.out;omega) ?_;intro v3 w3 O3 B3 _))
    rw [<-bu.out] at O3;exact ⟨⟨i+1,ag,by go_num,HB.out.trans B3,O3⟩,by simp [intOf];omega⟩
   | false=>
    have bu:Hid (Pw (T3 c con many) c (R.take (i+1))=Pw (T3 c con many) c (R.take i)):=by
     rw [hA] at eo;exact eo.trans (SH _)
    clear eo
    go_wp2_with (go_at_call 63;rw [<-fV];(with_reducible refine Pe CW ?_);rintro e' w1 ⟨rfl,hb1'⟩;obtain ⟨hb1,b0,b1,b2,b3⟩:=gX.out w1 hb1')
    refine ⟨⟨i+1,ag,by go_num,HB.out.trans (hb1.mono HB.out.size),?_⟩,by simp [intOf];omega⟩;show Pi _ _ _ _ _ _ _;rw [bu.out];exact HO.out.on HS.out HB.out.size hb1
 obtain rfl:i=R.length:=by omega
 go_wp2;go_ret;refine ⟨_,rfl,HB.out,?_⟩;have:=HO.out
 rwa [QM] at this
end
def Sc (c:Nat)(con:Qg)(r:Rw):Bool:=match r.2[c]? with
 | none=>false
 | some p=>p.kind==4 && p.name==con
theorem uw1 {w:World}{S:Nat->Prop}(rv:Value)(R:List Rw)(c:Nat)(con:Qg)(hS:∀y,S y->y<w.heap.size)(hR:PC Qc w S S rv R)(hw:∀r∈R,c<r.2.length)(hl:R.length<=1000000)(bo:∀r∈R,r.2.length<=1000000):
  Calls Tryz.prog 43 #[rv,.int .i64 c,.string ⟨con.toArray⟩] w λr w'=>r= .returned (.bool (R.any (Sc c con)))/\Below w.heap.size w w':=by
 obtain ⟨ad,cap,rfl⟩:=Pd.len hR;have HS:=P4 hS;have HR:=P4 hR;have HW:Hid (∀r∈R,c<r.2.length/\r.2.length<=1000000):=λr hr=>⟨hw r hr,bo r hr⟩;clear hS hR hw bo;go_enter Tryz.func43,Tryz.ntmps43;go_wp2
 go_loopw [7] (λiv wr=>∃i:Nat,i<=R.length/\iv= .int .i64 i/\Hid (Below w.heap.size w wr)/\Hid ((R.take i).any (Sc c con)=false)) (λiv _=>R.length-(intOf iv).toNat)
 case atStart=>exact ⟨0,by omega,by go_num,Pb _ _,rfl⟩
 obtain ⟨i,hi,rfl,HB,HM⟩:=hrel;by_cases ag:i<R.length
 ·have hk:OZ S w wr:=OZ.of HB.out HS.out;obtain ⟨g,o,rfl,aM,sg,r0,pa,pc,r1,hp⟩:=(HR.on hk hk (λ_ h=>h) λ_ h=>h).rowAt ag;have aW:=HW.out _ (Px ag);obtain ⟨g',o',rfl,gA,_,a0,a1,a2,qa,qc,a3,hv⟩:=hp.at aW.1;have i1:(0:Int)<=(i:Int):=by omega
  have i2:(i:Int)<(R.length:Int):=by omega
  have c1:(0:Int)<=(c:Int):=by omega
  have c2:(c:Int)<(R[i].2.length:Int):=by omega
  have cS:Sc c con R[i]=((R[i].2[c]'aW.1).kind==4 && (R[i].2[c]'aW.1).name==con):=by
   unfold Sc;rw [PR aW.1]
  have HT:Hid ((R.take (i+1)).any (Sc c con)=((R.take i).any (Sc c con) || Sc c con R[i])):=by
   show _=_;rw [S1,PR ag,N8];simp
  have HY:Hid (Sc c con R[i]=true->R.any (Sc c con)=true):=λh=>UG.2 ⟨_,Px ag,h⟩;have bo:=aW.2;have bg:=aW.1;clear hp hk sg hv;have gP:=P4 cS;clear cS;generalize R[i].2[c]'aW.1=q at *
  clear aW;by_cases h4:q.kind=4
  ·cases hA:(q.name==con) with
   | true=>
    have ep:Hid (R.any (Sc c con)=true):=HY.out (by rw [gP.out,hA,h4];rfl);clear gP;go_wp2;go_ret;rw [ep.out];exact ⟨rfl,HB.alloc HB.size _⟩
   | false=>
    have ep:Hid ((R.take (i+1)).any (Sc c con)=false):=by
     show _=_;rw [HT.out,HM.out,gP.out,hA,Nc]
     rfl
    clear gP;go_wp2;refine ⟨⟨i+1,ag,by go_num,HB.alloc HB.size _,ep.out⟩,by simp [intOf];omega⟩
  have ep:Hid ((R.take (i+1)).any (Sc c con)=false):=by
   show _=_;rw [HT.out,HM.out,gP.out,show (q.kind==4)=false by simpa using h4]
   rfl
  clear gP;go_wp2;refine ⟨⟨i+1,ag,by go_num,HB.alloc HB.size _,ep.out⟩,by simp [intOf];omega⟩
 obtain rfl:i=R.length:=by omega
 have dJ:Hid (R.any (Sc c con)=false):=by
  have:=HM.out
  rwa [QM] at this
 go_wp2;go_ret;rw [dJ.out];exact ⟨rfl,HB.out⟩
