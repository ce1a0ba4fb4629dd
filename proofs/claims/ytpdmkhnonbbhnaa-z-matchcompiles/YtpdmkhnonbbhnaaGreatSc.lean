import Derived.Test.YtpdmkhnonbbhnaaGreatMdx
import Derived.Test.YtpdmkhnonbbhnaaGreatMb
namespace Go.Proofs.YtpdmkhnonbbhnaaGreat
open Go.RowKit
set_option maxHeartbeats 4000000
set_option maxRecDepth 10000
theorem Tryz.info134':(Tryz.prog.info? 134).map (λi=>(i.zero,i.size,i.bytes))=some (some (.agg #[.int .i64 0,.pointer none]),2,16):=by kernel_rfl
def NQ (c:Cs):Value:= .agg #[.string ⟨c.1.toArray⟩,.int .i64 c.2,.int .i64 0,.int .i64 0,.slice none 0 0,.slice none 0 0,.slice none 0 0]
theorem Y9 (n:List UInt8):(⟨n.toArray⟩:ByteArray).toList=n:=by rw [ByteArray.toList_eq]
theorem Fu {α:Type}(p:α->Bool)(l:List α)(i:Nat)(h:i<l.length):(l.take (i+1)).filter p=(l.take i).filter p++(if p l[i] then [l[i]] else []):=by
 rw [S1,PR h,ZM]
 congr 1
 simp only [M3,OK,List.filter_nil]
theorem qu0 {w:World}{S:Nat->Prop}(sv:Value)(af:List Sp)(c:Cs)(hS:∀b,S b->b<w.heap.size)(hp:Q3 w S sv af)(hbig:af.length<=200):
  Calls Tryz.prog 72 #[sv,NQ c] w λr w'=>Below w.heap.size w w'/\∃a b,r= .returned (.tuple #[a,b])/\Q3 w' (λb=>S b\/(w.heap.size<=b/\b<w'.heap.size)) a (af.filter (Pk c))/\Q3 w' (λb=>S b\/(w.heap.size<=b/\b<w'.heap.size)) b (af.filter λs=> !Pk c s):=by
 obtain ⟨L,hL,au,dV⟩:=hp.list;have aA:L.length<=200:=by rw [<-hL,Qb] at hbig;exact hbig
 have hW:∃W,W=w.alloc (Obj.cells #[.string ⟨c.1.toArray⟩,.int .i64 c.2,.int .i64 0,.int .i64 0,.slice none 0 0,.slice none 0 0,.slice none 0 0] 53)/\Below w.heap.size w W/\W.heap.size=w.heap.size+1/\W.cell? ⟨w.heap.size,0,none⟩=some (.string ⟨c.1.toArray⟩)/\W.cell? ⟨w.heap.size,1,none⟩=some (.int .i64 c.2):=⟨_,rfl,(Pb _ _).alloc (P6 _) _,by simp,P0 (Qn w _) rfl,P0 (Qn w _) rfl⟩;obtain ⟨W,hW,an,aO,d0,d1⟩:=hW;have dD:=S6 an aO d0 d1;have bP:Hid (∀(a b:Value) (w':World),Two W (w.heap.size+1) (L.filter λs=>Pk c (sS s)) (L.filter λs=> !Pk c (sS s)) a b w'->Below w.heap.size w w'/\∃a' b',Ending.returned (.tuple #[a,b])= .returned (.tuple #[a',b'])/\Q3 w' (λb=>S b\/(w.heap.size<=b/\b<w'.heap.size)) a' (af.filter (Pk c))/\Q3 w' (λb=>S b\/(w.heap.size<=b/\b<w'.heap.size)) b' (af.filter λs=> !Pk c s)):=λa b w' h=>by
  have eN:Below w.heap.size w w':=an.trans (h.below.mono (by omega));have hk:OZ S w w':=OZ.of eN hS;refine ⟨eN,a,b,rfl,?_,?_⟩
  ·have:=(JY h.fst (λs hs=>(dV s (Sq.1 hs).1).on hk)).up (S':=λb=>S b\/(w.heap.size<=b/\b<w'.heap.size)) (λb hb=>hb.imp_right λe=>by have:=h.fst.lt b e;omega);rw [<-hL,Jw];exact this
  have:=(JY h.snd (λs hs=>(dV s (Sq.1 hs).1).on hk)).up (S':=λb=>S b\/(w.heap.size<=b/\b<w'.heap.size)) (λb hb=>hb.imp_right λe=>by have:=h.snd.lt b e;omega);rw [<-hL,Jw];exact this
 have gz:=P4 dV;have HS:=P4 hS;obtain ⟨ad,cap,rfl,ay⟩:=au.open;have bR:=P4 ay;clear au ay dV hS hL hbig hp an aO d0 d1;unfold NQ;generalize cP:(⟨c.1.toArray⟩:ByteArray)=cb at *
 have sZ:=P4 cP;generalize aX:c.2=cm at *
 have qE:=P4 aX;clear cP aX;have kt:Hid (Two W (w.heap.size+1) [] [] (.slice none 0 0) (.slice none 0 0) W):=Two.start W _;go_enter Tryz.func72,Tryz.ntmps72
 go_upto_region 1 with fail
 rw [<-hW];clear hW;go_wp2
 go_loopw [4,5,10] (λav bv iv wr=>∃i:Nat,i<=L.length/\iv= .int .i64 i/\Hid (Two W (w.heap.size+1) ((L.take i).filter λs=>Pk c (sS s)) ((L.take i).filter λs=> !Pk c (sS s)) av bv wr)) (λ_ _ iv _=>L.length-(intOf iv).toNat)
 case atStart=>exact ⟨0,by omega,by go_num,kt.out⟩
 obtain ⟨i,hi,rfl,HT⟩:=hrel;have HB:=P4 HT.below;by_cases ag:i<L.length
 ·obtain ⟨g,o,rfl,hc,hr⟩:=bR.out (λe=>by rw [e] at ag;simp at ag);obtain ⟨s0,q1,q2⟩:=hr i ag;have aV:=P4 (dD.1.trans (HB.mono (by omega)));have hk:=OZ.of aV.out HS.out;have q1:=(hk.cell (p:=⟨g,o+i*2,none⟩) s0).trans q1;have q2:=(hk.cell (p:=⟨g,o+i*2+1,none⟩) s0).trans q2;obtain ⟨pL,_,t1,t2,_,_⟩:=((gz.out L[i] (Px ag)).on hk).open;have hsz:w.heap.size<wr.heap.size:=by have:=HB.size;have:=dD.2.1;omega
  have nG:L[i].2.1<wr.heap.size:=by have:=HS.out _ pL;omega
  have d0:=(HB.cell (p:=⟨w.heap.size,0,none⟩) (by simp)).trans dD.2.2.1;have d1:=(HB.cell (p:=⟨w.heap.size,1,none⟩) (by simp)).trans dD.2.2.2;have i1:(0:Int)<=(i:Int):=by omega
  have i2:(i:Int)<(L.length:Int):=by omega
  go_upto_region 4 with fail
  have aD:∃W1,W1=wr.alloc (Obj.cells #[.int .i64 L[i].1,.pointer (some ⟨L[i].2.1,L[i].2.2.1,none⟩)] 134)/\Below wr.heap.size wr W1/\W1.heap.size=wr.heap.size+1/\W1.cell? ⟨wr.heap.size,0,none⟩=some (.int .i64 L[i].1)/\W1.cell? ⟨wr.heap.size,1,none⟩=some (.pointer (some ⟨L[i].2.1,L[i].2.2.1,none⟩)):=⟨_,rfl,(Pb _ _).alloc (P6 _) _,by simp,P0 (Qn wr _) rfl,P0 (Qn wr _) rfl⟩;obtain ⟨W1,aD,hb1,bH,x0,x1⟩:=aD;rw [<-aD];clear aD;have t1:=(hb1.cell (p:=⟨L[i].2.1,L[i].2.2.1+1,none⟩) nG).trans t1;have t2:=(hb1.cell (p:=⟨L[i].2.1,L[i].2.2.1+2,none⟩) nG).trans t2;have d0:=(hb1.cell (p:=⟨w.heap.size,0,none⟩) hsz).trans d0;have d1:=(hb1.cell (p:=⟨w.heap.size,1,none⟩) hsz).trans d1;have bI:=P4 (HB.trans (hb1.mono (by omega)));have fW:=P4 (HT.on (by have:=dD.2.1;omega) hb1);have cG:=P4 bH;have e1:=Fu (λs=>Pk c (sS s)) L i ag;have e2:=Fu (λs=> !Pk c (sS s)) L i ag;have HE:=Qh e1 e2;have kO:Pk c (sS L[i])=if c.1=[] then L[i].2.2.2.num==cm else L[i].2.2.2.name==c.1:=by rw [<-qE.out];rfl
  have eD:((L.take i).filter λs=>Pk c (sS s)).length<=200:=PZ (T8 _ _) (by rw [RW];omega);have cj:((L.take i).filter λs=> !Pk c (sS s)).length<=200:=PZ (T8 _ _) (by rw [RW];omega);obtain ⟨i0,d7,c8,bK,bJ⟩:=info_parts Tryz.info134';have hown1:=fW.fst;have bc7:=fW.snd;have eV:w.heap.size<=W1.heap.size:=by omega
  have hX:wr.heap.size<W1.heap.size:=by omega
  have gP:Hid (sE L[i]=[.int .i64 L[i].1,.pointer (some ⟨L[i].2.1,L[i].2.2.1,none⟩)]):=rfl;clear hk q1 q2 gz bH e1 e2 hb1 hr;generalize ch2:Pk c (sS L[i])=res at *
  clear ch2;generalize L[i].2.2.2.num=nu at *
  generalize L[i].2.2.2.name=na at *
  generalize hA:(L.take i).filter (λs=>Pk c (sS s))=A at *
  generalize hB:(L.take i).filter (λs=> !Pk c (sS s))=B at *
  clear hA hB HT;clear hown1 bc7;by_cases hc0:c.1=[]
  ·rw [Pc hc0] at kO;have bv2:cb.toList.isEmpty=true:=by rw [<-sZ.out,hc0,Y9];rfl
   by_cases hn:nu=cm
   ·obtain rfl:res=true:=by rw [kO];simpa using hn
    have hq:(nu==cm)=true:=by simpa using hn
    clear kO hn hc0
    go_quiet (fail)
    generalize hw3:W1.drewN _=W3;have hJ:Hid (Below W1.heap.size W1 W3/\W3.heap.size=W1.heap.size):=by rw [<-hw3];exact ⟨⟨rfl,rfl,rfl,P6 _,λ_ _=>rfl⟩,rfl⟩
    have y0:=(hJ.1.cell (p:=⟨wr.heap.size,0,none⟩) hX).trans x0;have y1:=(hJ.1.cell (p:=⟨wr.heap.size,1,none⟩) hX).trans x1;have fu:=P4 (fW.on (by have:=dD.2.1;omega) hJ.1);have aU:=fu.fst;have hb3:w.heap.size+1<=W3.heap.size:=by have:=hJ.2;have:=cG.out;omega
    clear hw3 x0 x1 t1 t2 d0 d1
    go_wp2_with (at_builtin;refine wpList_append_lies _ rfl _ _ 110 rfl (w.heap.size+1) 134 i0 _ 2 16 Tryz.underlying110 d7 c8 bK bJ rfl (by decide) _ _ _ rfl (aU.alloc _) ⟨W3.heap.size,0,none⟩ 1 1 [.int .i64 L[i].1,.pointer (some ⟨L[i].2.1,L[i].2.2.1,none⟩)] rfl rfl (World.news_of_block (Qn W3 _)) (by intro u hu;simp at hu;rcases hu with rfl | rfl<;>rfl) (by omega) (by unfold maxLen;omega) (by omega) (by simp;omega) (W3.heap.size+1) (by simp) ?_;intro g' cap' W4 cI eE eF iD)
    have kW:=fu.put1 (s:=L[i]) (by have:=dD.2.1;omega) cI eE eF (by omega);have k9:Hid (Two W (w.heap.size+1) ((L.take (i+1)).filter λs=>Pk c (sS s)) ((L.take (i+1)).filter λs=> !Pk c (sS s)) (.slice (some ⟨g',0,none⟩) (A.length+1) cap') u5 W4):=by
     show Two _ _ _ _ _ _ _;rw [HE.out.1,HE.out.2];simpa using kW
    clear cI eE eF iD aU kW;go_wp2
    go_roundw
    case rel=>exact ⟨i+1,ag,by go_num,k9.out⟩
    case measure=>simp [intOf];omega
   obtain rfl:res=false:=by rw [kO];simpa using hn
   have hq:(nu==cm)=false:=by simpa using hn
   clear kO hn hc0
   go_quiet (fail)
   generalize hw3:W1.drewN _=W3;have hJ:Hid (Below W1.heap.size W1 W3/\W3.heap.size=W1.heap.size):=by rw [<-hw3];exact ⟨⟨rfl,rfl,rfl,P6 _,λ_ _=>rfl⟩,rfl⟩
   have y0:=(hJ.1.cell (p:=⟨wr.heap.size,0,none⟩) hX).trans x0;have y1:=(hJ.1.cell (p:=⟨wr.heap.size,1,none⟩) hX).trans x1;have fu:=P4 (fW.on (by have:=dD.2.1;omega) hJ.1);have aU:=fu.snd;have hb3:w.heap.size+1<=W3.heap.size:=by have:=hJ.2;have:=cG.out;omega
   clear hw3 x0 x1 t1 t2 d0 d1
   go_wp2_with (at_builtin;refine wpList_append_lies _ rfl _ _ 110 rfl (w.heap.size+1) 134 i0 _ 2 16 Tryz.underlying110 d7 c8 bK bJ rfl (by decide) _ _ _ rfl (aU.alloc _) ⟨W3.heap.size,0,none⟩ 1 1 [.int .i64 L[i].1,.pointer (some ⟨L[i].2.1,L[i].2.2.1,none⟩)] rfl rfl (World.news_of_block (Qn W3 _)) (by intro u hu;simp at hu;rcases hu with rfl | rfl<;>rfl) (by omega) (by unfold maxLen;omega) (by omega) (by simp;omega) (W3.heap.size+1) (by simp) ?_;intro g' cap' W4 cI eE eF iD)
   have kW:=fu.swap.put1 (s:=L[i]) (by have:=dD.2.1;omega) cI eE eF (by omega);have k9:Hid (Two W (w.heap.size+1) ((L.take (i+1)).filter λs=>Pk c (sS s)) ((L.take (i+1)).filter λs=> !Pk c (sS s)) u4 (.slice (some ⟨g',0,none⟩) (B.length+1) cap') W4):=by
    show Two _ _ _ _ _ _ _;rw [HE.out.1,HE.out.2];simpa using kW.swap
   clear cI eE eF iD aU kW;go_wp2
   go_roundw
   case rel=>exact ⟨i+1,ag,by go_num,k9.out⟩
   case measure=>simp [intOf];omega
  rw [P7 hc0] at kO;have bv2:cb.toList.isEmpty=false:=by rw [<-sZ.out,Y9];simpa using hc0
  by_cases hn:na=c.1
  ·obtain rfl:res=true:=by rw [kO];simpa using hn
   rw [hn,sZ.out] at t1;have hq:(cb.toList==cb.toList)=true:=by simp
   clear kO hn hc0
   go_quiet (fail)
   generalize hw3:W1.drewN _=W3;have hJ:Hid (Below W1.heap.size W1 W3/\W3.heap.size=W1.heap.size):=by rw [<-hw3];exact ⟨⟨rfl,rfl,rfl,P6 _,λ_ _=>rfl⟩,rfl⟩
   have y0:=(hJ.1.cell (p:=⟨wr.heap.size,0,none⟩) hX).trans x0;have y1:=(hJ.1.cell (p:=⟨wr.heap.size,1,none⟩) hX).trans x1;have fu:=P4 (fW.on (by have:=dD.2.1;omega) hJ.1);have aU:=fu.fst;have hb3:w.heap.size+1<=W3.heap.size:=by have:=hJ.2;have:=cG.out;omega
   clear hw3 x0 x1 t1 t2 d0 d1
   go_wp2_with (at_builtin;refine wpList_append_lies _ rfl _ _ 110 rfl (w.heap.size+1) 134 i0 _ 2 16 Tryz.underlying110 d7 c8 bK bJ rfl (by decide) _ _ _ rfl (aU.alloc _) ⟨W3.heap.size,0,none⟩ 1 1 [.int .i64 L[i].1,.pointer (some ⟨L[i].2.1,L[i].2.2.1,none⟩)] rfl rfl (World.news_of_block (Qn W3 _)) (by intro u hu;simp at hu;rcases hu with rfl | rfl<;>rfl) (by omega) (by unfold maxLen;omega) (by omega) (by simp;omega) (W3.heap.size+1) (by simp) ?_;intro g' cap' W4 cI eE eF iD)
   have kW:=fu.put1 (s:=L[i]) (by have:=dD.2.1;omega) cI eE eF (by omega);have k9:Hid (Two W (w.heap.size+1) ((L.take (i+1)).filter λs=>Pk c (sS s)) ((L.take (i+1)).filter λs=> !Pk c (sS s)) (.slice (some ⟨g',0,none⟩) (A.length+1) cap') u5 W4):=by
    show Two _ _ _ _ _ _ _;rw [HE.out.1,HE.out.2];simpa using kW
   clear cI eE eF iD aU kW;go_wp2
   go_roundw
   case rel=>exact ⟨i+1,ag,by go_num,k9.out⟩
   case measure=>simp [intOf];omega
  obtain rfl:res=false:=by rw [kO];simpa using hn
  have hq:((⟨na.toArray⟩:ByteArray).toList==cb.toList)=false:=by rw [<-sZ.out,Y9,Y9];simpa using hn
  generalize (⟨na.toArray⟩:ByteArray)=nb at *
  clear kO hn hc0
  go_quiet (fail)
  generalize hw3:W1.drewN _=W3;have hJ:Hid (Below W1.heap.size W1 W3/\W3.heap.size=W1.heap.size):=by rw [<-hw3];exact ⟨⟨rfl,rfl,rfl,P6 _,λ_ _=>rfl⟩,rfl⟩
  have y0:=(hJ.1.cell (p:=⟨wr.heap.size,0,none⟩) hX).trans x0;have y1:=(hJ.1.cell (p:=⟨wr.heap.size,1,none⟩) hX).trans x1;have fu:=P4 (fW.on (by have:=dD.2.1;omega) hJ.1);have aU:=fu.snd;have hb3:w.heap.size+1<=W3.heap.size:=by have:=hJ.2;have:=cG.out;omega
  clear hw3 x0 x1 t1 t2 d0 d1
  go_wp2_with (at_builtin;refine wpList_append_lies _ rfl _ _ 110 rfl (w.heap.size+1) 134 i0 _ 2 16 Tryz.underlying110 d7 c8 bK bJ rfl (by decide) _ _ _ rfl (aU.alloc _) ⟨W3.heap.size,0,none⟩ 1 1 [.int .i64 L[i].1,.pointer (some ⟨L[i].2.1,L[i].2.2.1,none⟩)] rfl rfl (World.news_of_block (Qn W3 _)) (by intro u hu;simp at hu;rcases hu with rfl | rfl<;>rfl) (by omega) (by unfold maxLen;omega) (by omega) (by simp;omega) (W3.heap.size+1) (by simp) ?_;intro g' cap' W4 cI eE eF iD)
  have kW:=fu.swap.put1 (s:=L[i]) (by have:=dD.2.1;omega) cI eE eF (by omega);have k9:Hid (Two W (w.heap.size+1) ((L.take (i+1)).filter λs=>Pk c (sS s)) ((L.take (i+1)).filter λs=> !Pk c (sS s)) u4 (.slice (some ⟨g',0,none⟩) (B.length+1) cap') W4):=by
   show Two _ _ _ _ _ _ _;rw [HE.out.1,HE.out.2];simpa using kW.swap
  clear cI eE eF iD aU kW;go_wp2
  go_roundw
  case rel=>exact ⟨i+1,ag,by go_num,k9.out⟩
  case measure=>simp [intOf];omega
 obtain rfl:i=L.length:=by omega
 have en:Hid (Two W (w.heap.size+1) (L.filter λs=>Pk c (sS s)) (L.filter λs=> !Pk c (sS s)) u4 u5 wr):=by
  have:=HT.out
  rwa [QM] at this
 go_wp2;refine Qv (v:= .tuple #[u4,u5]) (by simp [results,Tryz.results72,go_sem]) rfl ?_;exact bP.out _ _ _ en.out
