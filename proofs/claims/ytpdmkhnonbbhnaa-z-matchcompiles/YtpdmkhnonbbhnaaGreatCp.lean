import Derived.Test.YtpdmkhnonbbhnaaGreatMdx
import Derived.Deep.RegionLaw
namespace Go.Proofs.YtpdmkhnonbbhnaaGreat
open Go.RowKit
set_option maxHeartbeats 4000000
set_option maxRecDepth 10000
theorem Tryz.info134:(Tryz.prog.info? 134).map (λi=>(i.zero,i.size,i.bytes))=some (some (.agg #[.int .i64 0,.pointer none]),2,16):=by kernel_rfl
theorem Tryz.info109:(Tryz.prog.info? 109).map (λi=>(i.zero,i.size,i.bytes))=some (some (.pointer none),1,8):=by kernel_rfl
theorem Pp {w:World}{b o:Nat}{cs:Array Value}{t:TypeId}(h:w.heap[b]? =some (.cells cs t (0,0))):w.frozen? ⟨b,o,none⟩=false:=by
 simp [World.frozen?,h]
theorem LM (S:Nat->Prop)(ai:List Nat)(ad:Option Addr)(cap:Nat)(n:Nat)(lines:List (Nat×List Pt))(lv:Value)(w:World)(hS:∀b,S b->b<w.heap.size)(hA:Pv w S (.slice ad ai.length cap) ai)(hn:n<100000)(hL:UZ w S lv lines)
  (au:∀l∈lines,l.1<200) (dR:∀l∈lines,n<=l.2.length/\l.2.length<140737488355328) (mr:lines.length<=200):
  Calls Tryz.prog 51 #[.slice ad ai.length cap,.int .i64 n,lv] w λr w'=>Below w.heap.size w w'/\∃v,r= .returned v/\Qw w' (λb=>S b\/(w.heap.size<=b/\b<w'.heap.size)) v (QA ai n lines):=by
 obtain ⟨ad2,cap2,rfl,jz⟩:=Pd.open hL;have HS:=P4 hS;have HA:=P4 hA;have fD:=Qh au dR;have cb2:=P4 jz;clear hS hA hL jz au dR;go_enter Tryz.func51,Tryz.ntmps51;go_wp2
 go_loopw [7,14] (λlc i wr=>∃(j:Nat) (cs:List (Nat×PM)),j<=n/\i= .int .i64 j/\Hid (Outv w S ai lines j cs lc wr)) (λ_ i _=>n-(intOf i).toNat)
 case atStart=>exact ⟨0,[],by omega,by go_num,Outv.start w S ai lines⟩
 obtain ⟨j,cs,hj,rfl,HO⟩:=hrel;by_cases hlt:j<n
 ·have by2:(j:Int)<n:=by omega
  go_upto_region 6 with fail
  rw [Vc];have HW:Hid (∃W0,W0=wr.alloc (Obj.cells (QX (.slice ad ai.length cap) j (.slice none 0 0) (List.replicate 200 false)) 113)/\Inn w S lines (.slice ad ai.length cap) j wr.heap.size W0 0 [] (.slice none 0 0) (List.replicate 200 false) W0/\Below wr.heap.size wr W0/\W0.heap.size=wr.heap.size+1):=
   ⟨_,rfl,Inn.start w wr S lines _ j,(Pb _ _).alloc (P6 _) _,by simp⟩
  obtain ⟨W0,hW,HW⟩:=HW;rw [<-hW];generalize Value.agg (QX (.slice ad ai.length cap) j (.slice none 0 0) (List.replicate 200 false))=ai5;have HW:=P4 HW;clear hW;have az:w.heap.size<=wr.heap.size:=HO.below.size;generalize hC:wr.heap.size=C at *
  have HC:=P4 hC;clear hC;go_wp2
  go_loopw [23] (λiv wi=>∃(i:Nat) (sp:List Sr) (sv:Value) (bs:List Bool),i<=lines.length/\iv= .int .i64 i/\Hid (Inn w S lines (.slice ad ai.length cap) j C W0 i sp sv bs wi)) (λiv _=>lines.length-(intOf iv).toNat)
  case atStart=>exact ⟨0,[],_,_,by omega,by go_num,HW.1⟩
  obtain ⟨i,sp,sv,bs,hi,rfl,HI⟩:=hrel;have vz:=P4 (HO.below.trans ((HW.2.1.mono az).trans (HI.below.mono az)));by_cases ag:i<lines.length
  ·obtain ⟨g,o,rfl,hc,wT⟩:=cb2.out (λe=>by rw [e] at ag;simp at ag);obtain ⟨s0,s1,pr,cap3,s2,s3⟩:=wT i ag;have cO:j<lines[i].2.length:=by have:=(fD.2 lines[i] (Px ag)).1;omega
   have ab6:=(fD.2 lines[i] (Px ag)).2;have iP:=fD.1 lines[i] (Px ag);rcases s3 with ⟨e,_⟩ | ⟨g4,o4,qj,e4,_,jA,hp4⟩
   ·exact absurd cO (by rw [e];simp)
   obtain ⟨rfl,rfl⟩:pr=some ⟨g4,o4,none⟩/\cap3=qj:=by simpa using e4
   have hp:=hp4 j cO;have hk:=OZ.of vz.out HS.out;have q1:=(hk.cell (p:=⟨g,o+i*2,none⟩) s0).trans s1;have q2:=(hk.cell (p:=⟨g,o+i*2+1,none⟩) s0).trans s2;have HP:=P4 hp;have dh:g<wr.heap.size:=by have:=HS.out g s0;have:=vz.size;omega
   have CW:∀W',Below wr.heap.size wr W'->Calls Tryz.prog 68 #[.pointer (some ⟨g4,o4+j*4,none⟩)] W' λr w'=>r= .returned (.bool (Pm lines[i].2[j]))/\w'=W':=λW' hb=>by
    have h2:OZ S w W':=OZ.of (vz.trans (hb.mono vz.size)) HS.out;exact Vt (HP.on h2)
   have i1:(0:Int)<=(i:Int):=by omega
   have i2:(i:Int)<(lines.length:Int):=by omega
   have j1:(0:Int)<=(j:Int):=by omega
   have j2:(j:Int)<(lines[i].2.length:Int):=by omega
   have rK:Hid (Pm lines[i].2[j]=true->∀wj,Below wr.heap.size wr wj->Inn w S lines (.slice ad ai.length cap) j C W0 (i+1) sp sv bs wj):=λhw wj hb=>(HI.on hb).skip ag cO hw;have rL:Hid (Pm lines[i].2[j]=false->∀wj w5 iQ,Below wr.heap.size wr wj->w5.ownsRow (C+1) 134 2 iQ (sp.length+1) (sp.flatMap sE++[.int .i64 lines[i].1,.pointer (some ⟨g4,o4+j*4,none⟩)])->wj.grownBy w5 sv.ownBlock->
     w5.heap[C]? =some (.cells (QX (.slice ad ai.length cap) j sv bs) 113 (0,0))/\(w5.setCell ⟨C,2,none⟩ iQ).heap[C]? =some (.cells (QX (.slice ad ai.length cap) j iQ bs) 113 (0,0))/\∃wU lA,Inn w S lines (.slice ad ai.length cap) j C W0 (i+1) wU iQ lA ((w5.setCell ⟨C,2,none⟩ iQ).setCell ⟨C,3+lines[i].1,none⟩ (.bool true))):=λhw wj w5 iQ hb hown hg=>by
    obtain ⟨b5,b6,h7⟩:=(HI.on hb).push ag cO hw HP.out iP hown hg;exact ⟨b5,b6,_,_,h7⟩
   generalize Pm lines[i].2[j]=wv at CW rK rL;clear hp hp4 hk s0 s1 s2 e4 wT HP cO;generalize lines[i].2.length=n4 at *
   generalize lines[i].1=r4 at *
   obtain ⟨b1,b2,b3,b4⟩:=ZW (.slice ad ai.length cap) j sv bs;have d2:=P5 HI.blk b2;have d3:=P5 HI.blk b3;have Be:C<wr.heap.size:=HI.lt
   go_upto_region 10 with fail
   have aD:∃W1,W1=wr.alloc (Obj.cells #[Value.int .i64 r4,Value.slice (some ⟨g4,o4,none⟩) n4 cap3] 104)/\Below wr.heap.size wr W1/\W1.heap.size=wr.heap.size+1/\W1.cell? ⟨wr.heap.size,0,none⟩=some (.int .i64 r4):=
    ⟨_,rfl,(Pb _ _).alloc (P6 _) _,by simp,P5 (PF _ _) rfl⟩
   obtain ⟨W1,aD,hb1,bH,x0⟩:=aD;rw [<-aD];clear aD;have vA:=CW W1 hb1;have ah4:=(hb1.cell (p:=⟨C,1,none⟩) Be).trans d2;have ax2:=(hb1.cell (p:=⟨C,2,none⟩) Be).trans d3;have bI:=P4 hb1;have lB:=P4 ((HI.on hb1).own);have cG:=P4 bH;clear CW q1 q2 d2 d3 hb1 bH;cases wv with
   | true=>
    go_wp2_with (go_at_call 68;(with_reducible refine Pe vA ?_);rintro e' w1 ⟨rfl,rfl⟩)
    go_roundw
    case rel=>exact ⟨i+1,sp,sv,bs,ag,by go_num,rK.out (by first | rfl | trivial) _ bI.out⟩
    case measure=>simp [intOf];omega
   | false=>
    go_upto_region 11 with (first | (go_at_call 68;(with_reducible refine Pe vA ?_);rintro e' w1 ⟨rfl,rfl⟩))
    clear vA;obtain ⟨va,vc,bs2⟩:=(Zq lB.out (λ_ _=>rfl)).len;subst bs2;have vB:Hid (∀g cap' w5,w5.ownsRow (C+1) 134 2 (.slice (some ⟨g,0,none⟩) (sp.length+1) cap') (sp.length+1) (sp.flatMap sE++[.int .i64 r4,.pointer (some ⟨g4,o4+j*4,none⟩)])->((w1.alloc (Obj.cells #[.int .i64 r4,.pointer (some ⟨g4,o4+j*4,none⟩)] 134)).drew).grownBy w5 (Value.slice va sp.length vc).ownBlock->
      w5.heap[C]? =some (.cells (QX (.slice ad ai.length cap) j (.slice va sp.length vc) bs) 113 (0,0))/\(∃U,U=w5.setCell ⟨C,2,none⟩ (.slice (some ⟨g,0,none⟩) (sp.length+1) cap')/\U.heap[C]? =some (.cells (QX (.slice ad ai.length cap) j (.slice (some ⟨g,0,none⟩) (sp.length+1) cap') bs) 113 (0,0))/\U.cell? ⟨wr.heap.size,0,none⟩=some (.int .i64 r4)/\∃wU lA,Inn w S lines (.slice ad ai.length cap) j C W0 (i+1) wU (.slice (some ⟨g,0,none⟩) (sp.length+1) cap') lA (U.setCell ⟨C,3+r4,none⟩ (.bool true)))):=λg cap' w5 hown hg=>by
     have hb2:Below wr.heap.size wr (w1.alloc (Obj.cells #[.int .i64 r4,.pointer (some ⟨g4,o4+j*4,none⟩)] 134)):=bI.alloc bI.size _;obtain ⟨b5,b6,h7⟩:=rL.out (by first | rfl | trivial) _ w5 _ hb2 hown ⟨hg.os,hg.tape,hg.output,hg.size,hg.block⟩;refine ⟨b5,_,rfl,b6,?_,h7⟩;have hX:(Value.slice va sp.length vc).ownBlock≠some wr.heap.size:=λe=>by have:=(HI.own.lt _ e).2;omega
     have:(w5.setCell ⟨C,2,none⟩ (.slice (some ⟨g,0,none⟩) (sp.length+1) cap')).heap[wr.heap.size]? =w1.heap[wr.heap.size]? :=by
      rw [PX _ _ _ _ (show wr.heap.size≠C by omega),hg.block _ (by have:=cG.out;show _<(w1.alloc _).heap.size;simp;omega) (λe=>hX e.symm)];exact Qq _ _ _ (by have:=cG.out;omega)
     rw [Ut this];exact x0
    obtain ⟨i0,d7,c8,bK,bJ⟩:=info_parts Tryz.info134;have cu:∃b0,bs[r4]? =some b0:=⟨_,HI.has r4 iP⟩;obtain ⟨b0,cu⟩:=cu;have r1:(0:Int)<=(r4:Int):=by omega
    have r2:(r4:Int)<200:=by omega
    have hsp:sp.length<=200:=by
     have h1:=congrArg List.length HI.is;rw [Qb] at h1;have h2:(Pq j (lines.take i)).length<=(lines.take i).length:=XH _ _;rw [RW] at h2;omega
    have aU:=lB.out;have au4:C<w1.heap.size:=by have:=cG.out;omega
    have jY:wr.heap.size<w1.heap.size:=by have:=cG.out;omega
    have n1:¬C=w1.heap.size:=by have:=cG.out;omega
    have n2:¬w1.heap.size=C:=by have:=cG.out;omega
    have n3:¬wr.heap.size=w1.heap.size:=by have:=cG.out;omega
    have G6:¬w1.heap.size=wr.heap.size:=by have:=cG.out;omega
    go_region_law ((refine step_append_lies _ (by rfl) _ _ _ (by rfl) (C+1) 134 i0 _ 2 16 Tryz.underlying110 d7 c8 bK bJ rfl (by omega) (.slice va sp.length vc) sp.length (sp.flatMap sE) (by rfl) ((aU.alloc _).drew) ⟨w1.heap.size,0,none⟩ 1 1 [.int .i64 r4,.pointer (some ⟨g4,o4+j*4,none⟩)] (by rfl) (by rfl) (World.news_of_block (cs:= #[.int .i64 r4,.pointer (some ⟨g4,o4+j*4,none⟩)]) (t:=134) (fr:=(0,0)) (PF w1 _)) (by simp [Value.oneCell']) (by omega) (by unfold maxLen;omega) (by omega) (by have:=cG.out;simp;omega) (w1.heap.size+1) (by simp) ?_;intro g cap' w5 b8 rM bL dr;obtain ⟨Ch,U,hU,Ci,jB,wU,lA,G7⟩:=vB.out g cap' w5 b8 rM;obtain ⟨z1,z2,z3,z4⟩:=ZW (.slice ad ai.length cap) j (.slice va sp.length vc) bs;have e2:=P5 Ch z3;have fC:=Pp (o:=2) Ch))
    all_goals
     rw [<-hU];obtain ⟨z1,z2,z3,z4⟩:=ZW (.slice ad ai.length cap) j (.slice (some ⟨g,0,none⟩) (sp.length+1) cap') bs;have e3:=P5 Ci ((z4 r4).trans (by rw [cu];rfl));have f3:=Pp (o:=3+r4) Ci;have br:=P4 G7;clear hU Ch e2 fC Ci G7 z1 z2 z3 z4 b8 rM bL dr;go_wp2
     go_region
     all_goals
      go_wp2
      go_roundw
      case rel=>exact ⟨i+1,wU,_,lA,ag,by go_num,br.on ⟨rfl,rfl,rfl,P6 _,λ_ _=>rfl⟩⟩
      case measure=>simp [intOf];omega
  obtain rfl:i=lines.length:=by omega
  have HE:=HI.col HA.out HS.out vz.out;obtain ⟨ai2,va,vc,rfl,tp⟩:=HE;have tp:=P4 tp;obtain ⟨b1,b2,b3,b4⟩:=ZW (.slice ad ai.length cap) j (.slice va (Pq j lines).length vc) bs;have d3:=P5 HI.blk b3;have tq:=P4 (HO.out.on HS.out (by rw [HC.out];exact HW.out.2.1.trans HI.out.below));by_cases hz:(Pq j lines).length=0
  ·have HN:=P4 (Up.1 hz);rw [hz] at d3;go_wp2
   go_roundw
   case rel=>exact ⟨j+1,cs,hlt,by go_num,tq.skip HN.out⟩
   case measure=>simp [intOf];omega
  have HN:Hid (Pq j lines≠[]):=λe=>hz (by rw [e];rfl);have an4:(0:Int)<((Pq j lines).length:Int):=by omega
  generalize (Pq j lines).length=m at *
  clear hz;obtain ⟨i0,d7,c8,bK,bJ⟩:=info_parts Tryz.info109;have hown:=tq.own;have bg:cs.length<=n:=by
   have h1:=congrArg List.length tq.is;rw [Qb] at h1;have h2:(QA ai j lines).length<=(List.range j).length:=XH _ _;rw [Ow] at h2;omega
  have eV:w.heap.size<=wr.heap.size:=vz.size
  go_wp2_with (at_builtin;refine wpList_append_lies _ rfl _ _ 72 rfl w.heap.size 109 i0 _ 1 8 Tryz.underlying72 d7 c8 bK bJ rfl (by decide) _ _ _ rfl (hown.alloc _) ⟨wr.heap.size,0,none⟩ 1 1 [.pointer (some ⟨C,0,none⟩)] rfl rfl (World.news_of_block (PF wr _)) (by intro u hu;simp at hu;subst hu;rfl) (by omega) (by unfold maxLen;omega) (by omega) (by simp;omega) (wr.heap.size+1) (by simp) ?_;intro g' cap' W3 aU ja mV hlt3)
  have bP:Hid (Outv w S ai lines (j+1) (cs++[(C,(ai,j,Pq j lines))]) (.slice (some ⟨g',0,none⟩) (cs.length+1) cap') W3):=by
   refine tq.push HS.out HN.out tp.out ⟨az,HI.lt,λe=> ?_⟩ (λb e=> ?_) aU ja mV (by omega)
   ·have:=(HO.own.lt C e).2;have:=HC.out;omega
   have h1:=HI.own.lt b e;refine ⟨by omega,h1.2,λe2=> ?_⟩;have:=(HO.own.lt b e2).2;have:=HC.out;omega
  clear aU ja mV hlt3 hown;go_wp2
  go_roundw
  case rel=>exact ⟨j+1,_,hlt,by go_num,bP.out⟩
  case measure=>simp [intOf];omega
 obtain rfl:j=n:=by omega
 go_wp2;go_ret;exact ⟨HO.below,_,rfl,HO.done⟩
