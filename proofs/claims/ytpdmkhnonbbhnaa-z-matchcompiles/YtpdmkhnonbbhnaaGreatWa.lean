import Derived.Test.YtpdmkhnonbbhnaaGreatMcx
import Derived.Test.YtpdmkhnonbbhnaaGreatMix
import Derived.Deep.CutRange
namespace Go.Proofs.YtpdmkhnonbbhnaaGreat
open Go.RowKit Go.Maps
set_option maxHeartbeats 8000000
set_option maxRecDepth 10000
def RZ (f:Pu):Nat:=f.1.length+f.2.length
theorem Mu {α:Type}(g:α->Nat)(l:List α)(i:Nat)(h:i<l.length):((l.take (i+1)).map g).sum=((l.take i).map g).sum+g l[i]:=by
 rw [S1,PR h,R6,Kk];simp
def tj0 (fs:List Pu)(rows:List (List Pt))(w:World)(r:Ending)(w':World):Prop:=Below w.heap.size w w'/\∃a,r= .returned (.bool a)/\(a=true->rows.length+fs.length+(rows.map Q6).sum+(fs.map RZ).sum<=10000)
theorem ax1 {w:World}{S:Nat->Prop}(fs:List Pu)(rows:List (List Pt))(fa fP:Option Addr)(fc ci:Nat)(hS:∀b,S b->b<w.heap.size)(hF:PH w S (.slice fa fs.length fc) fs)(hR:RH w S (.slice fP rows.length ci) rows)(aY:fs.length<140737488355328)(cH:rows.length<140737488355328)(dU:∀r∈rows,r.length<140737488355328)(pA:∀f∈fs,f.1.length<140737488355328/\f.2.length<140737488355328):
  Calls Tryz.prog 5 #[.slice fa fs.length fc,.slice fP rows.length ci] w (tj0 fs rows w):=by
 obtain ⟨_,_,ce,aK⟩:=Pd.open hR;injection ce with ce ko ch;subst ce ch;obtain ⟨_,_,cJ,ay⟩:=Pd.open hF;injection cJ with cJ iU d9;subst cJ d9;clear ko iU hF hR;have HS:Hid (∀b,S b->b<w.heap.size):=hS;have ep:Hid (rows≠[]->∃g o,fP=some ⟨g,o,none⟩/\rows.length<=ci/\∀j (h:j<rows.length),S g/\∃ad cap,w.cell? ⟨g,o+j*1,none⟩=some (.slice ad rows[j].length cap)/\Pl w S (.slice ad rows[j].length cap) rows[j]):=aK;have ei:Hid (fs≠[]->∃g o,fa=some ⟨g,o,none⟩/\fs.length<=fc/\∀j (h:j<fs.length),S g/\(∃ad cap,w.cell? ⟨g,o+j*2,none⟩=some (.slice ad fs[j].1.length cap)/\RE w S (.slice ad fs[j].1.length cap) fs[j].1)/\∃ad cap,w.cell? ⟨g,o+j*2+1,none⟩=some (.slice ad fs[j].2.length cap)/\Rl w S (.slice ad fs[j].2.length cap) fs[j].2):=ay;have HW:=Qh dU pA;clear aK ay hS dU pA;go_enter Tryz.func5,Tryz.ntmps5;go_wp2
 go_loopw [5,6] (λlv iv wr=>∃(i:Nat) (left:Int),i<=rows.length/\iv= .int .i64 i/\lv= .int .i64 left/\left<=10000/\-300000000000000<=left/\Hid (Below w.heap.size w wr)/\Hid (0<=left->(rows.length:Int)+fs.length+((rows.take i).map Q6).sum<=10000-left)) (λ_ iv _=>rows.length-(intOf iv).toNat)
 case atStart=>exact ⟨0,10000-rows.length-fs.length,by omega,by go_num,by go_num,by omega,by omega,Pb _ _,λ_=>by simp;omega⟩
 obtain ⟨i,left,hi,rfl,rfl,fk,mI,HB,HI⟩:=hrel
 go_upto_region 3 with fail
 go_cut [21] from 14 to 21 (λv wc=>v= .bool (decide (i<rows.length/\0<=left))/\wc=wr)
 case first=>
  by_cases h1:i<rows.length
  ·have i2:(i:Int)<(rows.length:Int):=by omega
   by_cases h2:0<=left
   ·have e3:Hid (Value.bool true= .bool (decide (i<rows.length/\0<=left))):=by show _=_;simp [h1,h2]
    have sJ:decide ((0:Int)<=left)=true:=T7 h2;clear h1;go_wp2;go_meet
    case rel=>exact ⟨e3.out,rfl⟩
   have e3:Hid (Value.bool false= .bool (decide (i<rows.length/\0<=left))):=by show _=_;simp [h2]
   have sJ:decide ((0:Int)<=left)=false:=Ti h2;clear h1;go_wp2;go_meet
   case rel=>exact ⟨e3.out,rfl⟩
  have i2:¬(i:Int)<(rows.length:Int):=by omega
  have e3:Hid (Value.bool false= .bool (decide (i<rows.length/\0<=left))):=by show _=_;simp [h1]
  clear h1;go_wp2;go_meet
  case rel=>exact ⟨e3.out,rfl⟩
 obtain ⟨rfl,qq⟩:=hcut;obtain rfl:=qq.symm;by_cases eL:i<rows.length/\0<=left
 ·rw [T7 eL];obtain ⟨ag,h0⟩:=eL;obtain ⟨g,o,rfl,hc,hr⟩:=ep.out (λe=>by rw [e] at ag;simp at ag);obtain ⟨s0,ad,cap,q,hp⟩:=hr i ag;have hk:=OZ.of HB.out HS.out;have q:=(hk.cell (p:=⟨g,o+i*1,none⟩) s0).trans q;rw [R4] at q;have CH:=nh0 ((rows[i].map (·.1)).sum+1) _ rows[i] left wr S (λp hp=>by have:=YZ _ _ (PI.2 ⟨p,hp,rfl⟩:p.1∈rows[i].map (·.1));omega) (λy hy=>by have:=HS.out y hy;have:=HB.out.size;omega) (HW.out.1 _ (Px ag)) (by omega) fk (hp.on hk);have ib:Hid (((rows.take (i+1)).map Q6).sum=((rows.take i).map Q6).sum+Q6 rows[i]):=Mu Q6 rows i ag;have i1:(0:Int)<=(i:Int):=by omega
  have i2:(i:Int)<(rows.length:Int):=by omega
  have HH:=Qh h0 ag;clear hk hr hp;generalize rows[i].length=nl at *
  generalize Q6 rows[i]=sz at *
  go_wp2_with (first | (go_at_call 19;(with_reducible refine Pe CH ?_);rintro e' w2 ⟨⟨x,rfl,ko,iU,hx3⟩,hb2⟩))
  refine ⟨⟨i+1,x,HH.out.2,by go_num,rfl,by omega,by omega,HB.out.trans (hb2.mono HB.out.size),λlF=> ?_⟩,by simp [intOf];have:=HH.out.2;omega⟩;have h1:=HI.out HH.out.1;have h2:=hx3 lF;rw [ib.out];omega
 rw [Ti eL];have HX:Hid (0<=left->(rows.length:Int)+fs.length+(rows.map Q6).sum<=10000-left):=λh=>by
  have sD:i=rows.length:=by omega
  have:=HI.out h;rw [sD,QM] at this;exact this
 clear eL HI ep;go_wp2
 go_loopw [5,7] (λlv iv gQ=>∃(j:Nat) (left:Int),j<=fs.length/\iv= .int .i64 j/\lv= .int .i64 left/\left<=10000/\-600000000000000<=left/\Hid (Below w.heap.size w gQ)/\Hid (0<=left->(rows.length:Int)+fs.length+(rows.map Q6).sum+((fs.take j).map RZ).sum<=10000-left)) (λ_ iv _=>fs.length-(intOf iv).toNat)
 case atStart=>exact ⟨0,left,by omega,by go_num,rfl,fk,by omega,HB.out,λh=>by have:=HX.out h;simp;omega⟩
 clear HB HX fk mI hi;obtain ⟨j,lf,hj,rfl,rfl,fk,mI,HB,HI⟩:=hrel
 go_upto_region 7 with fail
 go_cut [37] from 30 to 37 (λv wc=>v= .bool (decide (j<fs.length/\0<=lf))/\wc=wr)
 case first=>
  by_cases h1:j<fs.length
  ·have i2:(j:Int)<(fs.length:Int):=by omega
   by_cases h2:0<=lf
   ·have e3:Hid (Value.bool true= .bool (decide (j<fs.length/\0<=lf))):=by show _=_;simp [h1,h2]
    have sJ:decide ((0:Int)<=lf)=true:=T7 h2;clear h1;go_wp2;go_meet
    case rel=>exact ⟨e3.out,rfl⟩
   have e3:Hid (Value.bool false= .bool (decide (j<fs.length/\0<=lf))):=by show _=_;simp [h2]
   have sJ:decide ((0:Int)<=lf)=false:=Ti h2;clear h1;go_wp2;go_meet
   case rel=>exact ⟨e3.out,rfl⟩
  have i2:¬(j:Int)<(fs.length:Int):=by omega
  have e3:Hid (Value.bool false= .bool (decide (j<fs.length/\0<=lf))):=by show _=_;simp [h1]
  clear h1;go_wp2;go_meet
  case rel=>exact ⟨e3.out,rfl⟩
 obtain ⟨rfl,qq⟩:=hcut;obtain rfl:=qq.symm;by_cases eL:j<fs.length/\0<=lf
 ·rw [T7 eL];obtain ⟨cO,h0⟩:=eL;obtain ⟨g,o,rfl,hc,hr⟩:=ei.out (λe=>by rw [e] at cO;simp at cO);obtain ⟨s0,⟨ad,cap,q,_⟩,ad2,cap2,q2,_⟩:=hr j cO;have hk:=OZ.of HB.out HS.out;have q:=(hk.cell (p:=⟨g,o+j*2,none⟩) s0).trans q;have q2:=(hk.cell (p:=⟨g,o+j*2+1,none⟩) s0).trans q2;obtain ⟨cR,j8⟩:=HW.out.2 _ (Px cO);have ib:Hid (((fs.take (j+1)).map RZ).sum=((fs.take j).map RZ).sum+(fs[j].1.length+fs[j].2.length)):=Mu RZ fs j cO;have i1:(0:Int)<=(j:Int):=by omega
  have i2:(j:Int)<(fs.length:Int):=by omega
  have HH:=Qh h0 cO;clear hk hr;generalize fs[j].1.length=n1 at *
  generalize fs[j].2.length=n2 at *
  go_upto_region 9 with fail
  go_region_held3 (λw'=>w'.cell? ⟨g,o+j*2,none⟩=some (.slice ad n1 cap)/\w'.cell? ⟨g,o+j*2+1,none⟩=some (.slice ad2 n2 cap2)) (first | (with_reducible exact ⟨q,q2⟩) | assumption | go_keep) (first | fail)
  have iu:IntKind.i64.wrap (lf-(n1:Int))=lf-n1:=by rw [RV];omega
  have hw2:IntKind.i64.wrap (lf-(n1:Int)-n2)=lf-n1-n2:=by rw [RV];omega
  rw [iu,hw2];go_wp2;refine ⟨⟨j+1,lf-n1-n2,HH.out.2,by go_num,rfl,by omega,by omega,HB.out.drew,λlF=> ?_⟩,by simp [intOf];have:=HH.out.2;omega⟩;have h1:=HI.out HH.out.1;rw [ib.out];omega
 rw [Ti eL];have HX:Hid (0<=lf->rows.length+fs.length+(rows.map Q6).sum+(fs.map RZ).sum<=10000):=λh=>by
  have eX:j=fs.length:=by omega
  have:=HI.out h;rw [eX,QM] at this;omega
 clear eL HI;go_wp2;go_ret;exact ⟨HB.out,_,rfl,λh=>HX.out (ZT h)⟩
