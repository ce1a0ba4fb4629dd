import Derived.Test.YtpdmkhnonbbhnaaGreatMb
import Derived.Test.YtpdmkhnonbbhnaaGreatMdx
namespace Go.Proofs.YtpdmkhnonbbhnaaGreat
open Go.RowKit Go.Maps
set_option maxHeartbeats 4000000
set_option maxRecDepth 100000
variable {w:World}
def Ul (k:Kn)(f s:Pt):Bool:=s.kind==f.kind && Q8 k s && (f.kind !=4 || (O' k s.name).1==(O' k f.name).1)
theorem nj0 (k:Kn)(af:List Sp)(h:0<af.length):together k af=af.all λs=>Ul k af[0].2 s.2:=by
 cases af with
 | nil=>simp at h
 | cons a r=>rfl
theorem ua1 (k:Kn)(af:List Sp)(h:0<af.length)(i:Nat)(hi:i<af.length)(hc:Ul k af[0].2 af[i].2=false):together k af=false:=by
 rw [nj0 k af h,List.all_eq_false];exact ⟨af[i],Px hi,by simp [hc]⟩
theorem ub1 (k:Kn)(af:List Sp)(h:0<af.length)(hc:∀i (hi:i<af.length),Ul k af[0].2 af[i].2=true):together k af=true:=by
 rw [nj0 k af h,TK];intro s hs;obtain ⟨i,hi,rfl⟩:=RO hs;exact hc i hi
theorem fld (a b c:Int)(W:World):(Instr.field 100 (.agg #[.int .i64 a,.int .i64 b,.int .i64 c]) 0).run Tryz.prog W= .ok (.int .i64 a) W:=by
 rfl
theorem _root_.Go.RowKit.Below.more {B:Nat}{a:World}(h:Below B a w)(q:Nat):Below B a (w.drewN q):=⟨h.os,h.tape,h.output,h.size,h.block⟩
theorem uc1 {S:Nat->Prop}{b:Nat}{k:Kn}(fa:Option Addr)(fl fc:Nat)(sv:Value)(af:List Sp)(hS:∀b,S b->b<w.heap.size)(hM:PP w b k)(hp:Q3 w S sv af)(h0:0<af.length)(hbig:af.length<=200):
  Calls Tryz.prog 70 #[.agg #[.slice fa fl fc,.map (some b)],sv] w λr w'=>r= .returned (.bool (together k af))/\Below w.heap.size w w':=by
 have HT:Hid (∀i (hi:i<af.length),Ul k af[0].2 af[i].2=false->together k af=false):=λi hi=>ua1 k af h0 i hi;have en:=P4 (ub1 k af h0);generalize together k af=R at HT en;rcases hp with ⟨e,_⟩ | ⟨g,o,cap,rfl,_,hc,hp⟩
 ·rw [e] at h0;simp at h0
 have HS:=P4 hS;have HM:=P4 hM;have HP:=P4 hp;obtain ⟨s0,f1,fg,fo,f2,f3⟩:=hp 0 h0;have HF:=P4 f3;rw [show o+0*2=o by omega] at f1 f2;have hW:∃W,W=w.alloc (Obj.cells #[.slice fa fl fc,.map (some b)] 69)/\Below w.heap.size w W/\W.heap.size=w.heap.size+1/\W.cell? ⟨w.heap.size,0,none⟩=some (.slice fa fl fc)/\W.cell? ⟨w.heap.size,1,none⟩=some (.map (some b)):=⟨_,rfl,(Pb _ _).alloc (P6 _) _,by simp,P0 (Qn w _) rfl,P0 (Qn w _) rfl⟩;obtain ⟨W,hW,an,aO,d0,d1⟩:=hW;have dD:=S6 an aO d0 d1;have hg:=hS _ s0;have f2:=(an.cell (p:=⟨g,o+1,none⟩) hg).trans f2;have f1:=(an.cell (p:=⟨g,o,none⟩) hg).trans f1;have hz:(0:Int)<(af.length:Int):=by omega
 clear hS hM hp f3 an aO d0 d1 s0;go_enter Tryz.func70,Tryz.ntmps70
 go_upto_region 1 with fail
 rw [<-hW];clear hW;go_wp2
 go_loopw [14] (λiv wr=>∃i:Nat,i<=af.length/\iv= .int .i64 i/\Hid (Below (w.heap.size+1) W wr)/\Hid (∀j (hj:j<af.length),j<i->Ul k af[0].2 af[j].2=true)) (λiv _=>af.length-(intOf iv).toNat)
 case atStart=>exact ⟨0,by omega,by go_num,Pb _ _,λj _ h=>by omega⟩
 obtain ⟨i,hi,rfl,HB,HC⟩:=hrel;clear f1 f2;have aV:=P4 (dD.1.trans (HB.mono (by omega)));by_cases ag:i<af.length
 ·obtain ⟨s0,q1,pg,po,q2,q3⟩:=HP.out i ag;have hk:=OZ.of aV.out HS.out;have q1:=(hk.cell (p:=⟨g,o+i*2,none⟩) s0).trans q1;have q2:=(hk.cell (p:=⟨g,o+i*2+1,none⟩) s0).trans q2;have Dr:RN wr S pg po af[i].2:=q3.on hk;have GT:RN wr S fg fo af[0].2:=HF.on hk;obtain ⟨pL,t0,t1,_,GU,_⟩:=Dr.open;obtain ⟨cf6,v0,v1,_,GV,_⟩:=GT.open;have hsz:w.heap.size<wr.heap.size:=by have:=HB.size;have:=dD.2.1;omega
  have nG:pg<wr.heap.size:=by have:=HS.out _ pL;omega
  have GW:fg<wr.heap.size:=by have:=HS.out _ cf6;omega
  have d0:=(HB.cell (p:=⟨w.heap.size,0,none⟩) (by simp)).trans dD.2.2.1;have d1:=(HB.cell (p:=⟨w.heap.size,1,none⟩) (by simp)).trans dD.2.2.2;have qI:PP wr b k:=HM.on (aV.block b (Mv.lt HM.out));have i1:(0:Int)<=(i:Int):=by omega
  have i2:(i:Int)<(af.length:Int):=by omega
  go_upto_region 5 with fail
  have aD:∃W1,W1=wr.alloc (Obj.cells #[.int .i64 af[i].1,.pointer (some ⟨pg,po,none⟩)] 134)/\Below wr.heap.size wr W1/\W1.heap.size=wr.heap.size+1/\W1.cell? ⟨wr.heap.size,1,none⟩=some (.pointer (some ⟨pg,po,none⟩)):=⟨_,rfl,(Pb _ _).alloc (P6 _) _,by simp,P0 (Qn wr _) rfl⟩;obtain ⟨W1,aD,hb1,bH,x1⟩:=aD;rw [<-aD];clear aD;have t0:=(hb1.cell (p:=⟨pg,po,none⟩) nG).trans t0;have t1:=(hb1.cell (p:=⟨pg,po+1,none⟩) nG).trans t1;have v0:=(hb1.cell (p:=⟨fg,fo,none⟩) GW).trans v0;have v1:=(hb1.cell (p:=⟨fg,fo+1,none⟩) GW).trans v1;have d0:=(hb1.cell (p:=⟨w.heap.size,0,none⟩) hsz).trans d0;have d1:=(hb1.cell (p:=⟨w.heap.size,1,none⟩) hsz).trans d1;have kU:PP W1 b k:=qI.on (hb1.block b (Mv.lt qI));have cG:Hid (∀b,S b->b<W1.heap.size):=λb hb=>by have:=HS.out b hb;omega
  have GX:RN W1 S pg po af[i].2:=Dr.on (OZ.of hb1 λb hb=>by have:=HS.out b hb;omega);have CM:∀W',Below W1.heap.size W1 W'->Calls Tryz.prog 85 #[.agg #[.slice fa fl fc,.map (some b)],.pointer (some ⟨pg,po,none⟩)] W' λr w'=>r= .returned (.bool (Q8 k af[i].2))/\Below W'.heap.size W' w':=λW' aj=>
   zz1 fa fl fc (λb hb=>by have:=cG.out b hb;have:=aj.size;omega) (kU.on (aj.block b (Mv.lt kU))) (GX.on (OZ.of aj cG.out))
  have bI:=P4 (HB.trans (hb1.mono (by omega)));have qJ:=P4 (HT.out i ag);have sM:Hid (Ul k af[0].2 af[i].2=true->∀j (hj:j<af.length),j<i+1->Ul k af[0].2 af[j].2=true):=λh j hj bZ=>by
   by_cases e:j=i
   ·subst e;exact h
   exact HC.out j hj (by omega)
  have yD:Ul k af[0].2 af[i].2=(af[i].2.kind==af[0].2.kind && Q8 k af[i].2 && (af[0].2.kind !=4 || (O' k af[i].2.name).1==(O' k af[0].2.name).1)):=rfl;have hX:wr.heap.size<W1.heap.size:=by omega
  have eD:∀W',Below W1.heap.size W1 W'->(Instr.lookup 67 (.map (some b)) (.string ⟨af[i].2.name.toArray⟩) false).run Tryz.prog W'= .ok (kV (O' k af[i].2.name)) W'/\(Instr.lookup 67 (.map (some b)) (.string ⟨af[0].2.name.toArray⟩) false).run Tryz.prog W'= .ok (kV (O' k af[0].2.name)) W':=λW' aj=>by
   have h:=kU.on (aj.block b (Mv.lt kU));exact ⟨h.look1 _ GU,h.look1 _ GV⟩
  clear Dr GT qI kU GX hk q1 q2 q3 GU GV HP HT HM HF bH;rw [yD] at qJ sM;clear yD;generalize af[i].2.kind=k1 at *
  generalize af[0].2.kind=k2 at *
  generalize (⟨af[i].2.name.toArray⟩:ByteArray)=n1 at *
  generalize (⟨af[0].2.name.toArray⟩:ByteArray)=n2 at *
  generalize O' k af[i].2.name=l1 at *
  generalize O' k af[0].2.name=l2 at *
  generalize Q8 k af[i].2=mb at *
  by_cases tS:k1=k2
  ·subst tS;have am:(k1 !=k1)=false:=by simp
   go_region_held3 (λw'=>(w'.cell? ⟨w.heap.size,0,none⟩=some (.slice fa fl fc)/\w'.cell? ⟨w.heap.size,1,none⟩=some (.map (some b))/\w'.cell? ⟨wr.heap.size,1,none⟩=some (.pointer (some ⟨pg,po,none⟩)))/\(w'.cell? ⟨pg,po,none⟩=some (.int .i64 k1))/\w'.cell? ⟨fg,fo,none⟩=some (.int .i64 k1)) (first | exact ⟨⟨d0,d1,x1⟩,t0,v0⟩ | assumption | (have hk:∀p:Addr,p.block<W1.heap.size->w1.cell? p=W1.cell? p:=λp hp=>hb2.cell hp;exact ⟨⟨(hk _ (by simp;omega)).trans d0,(hk _ (by simp;omega)).trans d1,(hk _ hX).trans x1⟩,(hk _ (by simp;omega)).trans t0,(hk _ (by simp;omega)).trans v0⟩) | go_keep)
    (first | (go_at_call 85;(with_reducible refine Pe (CM _ ?_) ?_);exact (Pb _ _).drew;rintro e' w1 ⟨rfl,hb2⟩))
   all_goals
    have hb3:Below W1.heap.size W1 w1:=⟨hb2.os,hb2.tape,hb2.output,hb2.size,hb2.block⟩;have hk:∀p:Addr,p.block<W1.heap.size->w1.cell? p=W1.cell? p:=λp hp=>hb3.cell hp;have t0:=(hk ⟨pg,po,none⟩ (by simp;omega)).trans t0;have t1:=(hk ⟨pg,po+1,none⟩ (by simp;omega)).trans t1;have v0:=(hk ⟨fg,fo,none⟩ (by simp;omega)).trans v0;have v1:=(hk ⟨fg,fo+1,none⟩ (by simp;omega)).trans v1;have d1:=(hk ⟨w.heap.size,1,none⟩ (by simp;omega)).trans d1;have x1:=(hk ⟨wr.heap.size,1,none⟩ hX).trans x1;have aS:=P4 (bI.trans (hb3.mono (by omega)));have cj:=λq=>(eD (w1.drewN q) ⟨hb3.os,hb3.tape,hb3.output,hb3.size,hb3.block⟩).1;have mB:=λq=>(eD (w1.drewN q) ⟨hb3.os,hb3.tape,hb3.output,hb3.size,hb3.block⟩).2;unfold kV at cj mB;have Xe:=λq=>fld l1.1 l1.2.1 l1.2.2 (w1.drewN q);have Z2:=λq=>fld l2.1 l2.2.1 l2.2.2 (w1.drewN q);clear CM eD hb2 hb3 hk d0;cases mb with
    | false=>
     have HF:=P4 (qJ.out (by simp));clear qJ sM cj mB;go_wp2;go_ret;exact ⟨by rw [HF.out];rfl,dD.out.1.trans (aS.out.mono (by omega))⟩
    | true=>
     by_cases h4:k1=4
     ·subst h4;by_cases hl:l1.1=l2.1
      ·have yE:((l1.1:Int) !=(l2.1:Int))=false:=by simp [hl]
       have HT:=P4 (sM.out (by simp [hl]));clear qJ sM hl;go_wp2
       go_quiet (fail)
       all_goals
        go_wp2
        go_roundw
        case rel=>exact ⟨i+1,ag,by go_num,⟨aS.os,aS.tape,aS.output,aS.size,aS.block⟩,HT.out⟩
        case measure=>simp [intOf];omega
      have yE:((l1.1:Int) !=(l2.1:Int))=true:=by simp;omega
      have HF:=P4 (qJ.out (by simp [hl]));clear qJ sM hl;go_wp2
      go_quiet (fail)
      all_goals
       go_wp2;go_ret;exact ⟨by rw [HF.out];rfl,(dD.out.1.trans (aS.out.mono (by omega))).more _⟩
     have wa:(k1==4)=false:=by simpa using h4
     have HT:=P4 (sM.out (by simp [h4]));clear qJ sM cj mB;go_wp2
     go_quiet (fail)
     all_goals
      go_wp2
      go_roundw
      case rel=>exact ⟨i+1,ag,by go_num,⟨aS.os,aS.tape,aS.output,aS.size,aS.block⟩,HT.out⟩
      case measure=>simp [intOf];omega
  have am:(k1 !=k2)=true:=by simpa using tS
  have HF:=P4 (qJ.out (by simp [tS]));clear CM eD qJ sM
  go_region
  all_goals
   go_wp2;go_ret;exact ⟨by rw [HF.out];rfl,dD.out.1.trans (bI.out.drew.mono (by omega))⟩
 have HE:Hid (R=true):=en.out λj hj=>HC.out j hj (by omega);go_wp2;go_ret;exact ⟨by rw [HE.out];rfl,aV.out⟩
