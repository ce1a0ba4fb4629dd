import Derived.Test.YtpdmkhnonbbhnaaGreatSc
import Derived.Test.YtpdmkhnonbbhnaaGreatCp
import Derived.Test.YtpdmkhnonbbhnaaGreatMc
namespace Go.Proofs.YtpdmkhnonbbhnaaGreat
open Go.RowKit Go.Maps
set_option maxHeartbeats 4000000
set_option maxRecDepth 100000
variable {w W wr:World}{cur:Array Value}{i:Nat}{S:Nat->Prop}
theorem Tryz.info104:(Tryz.prog.info? 104).map (λi=>(i.zero,i.size,i.bytes))=some (some (.agg #[.int .i64 0,.slice none 0 0]),2,32):=by kernel_rfl
theorem Z2 (a b c:Int)(W:World):(Instr.field 100 (.agg #[.int .i64 a,.int .i64 b,.int .i64 c]) 2).run Tryz.prog W= .ok (.int .i64 c) W:=by
 rfl
theorem KW (w:World)(n:Nat)(hn:n<=1000):∃c,(Instr.makeSlice 102 (.int .i64 n) (.int .i64 n)).run Tryz.prog w= .ok (.slice (some ⟨w.heap.size,0,none⟩) n n) (w.alloc (.cells c 104))/\c.size=n*2:=by
 obtain ⟨i0,hi,c8,bK,bJ⟩:=info_parts Tryz.info104;have:=Y6 (P:=Tryz.prog) w 102 104 i0 _ Tryz.underlying102 hi c8 .i64 .i64 n n (by omega) (Yp _) (by rw [bK];simp;omega) (by rw [bJ];omega) (by omega);refine ⟨_,by simpa using this,?_⟩;simp [madeCells,bK]
structure Lw (w:World)(L:List Sr)(Lb:Nat)(W:World)(i:Nat)(cur:Array Value)(wr:World):Prop where
 below:Below Lb W wr
 blk:wr.heap[Lb]? =some (.cells cur 104 (0,0))
 size:cur.size=L.length*2
 row:∀j (h:j<L.length),j<i->cur[j*2]? =some (.int .i64 L[j].1)/\cur[j*2+1]? =w.cell? ⟨L[j].2.1,L[j].2.2.1+3,none⟩
theorem Lw.lt {L:List Sr}{Lb:Nat}(h:Lw w L Lb W i cur wr):Lb<wr.heap.size:=PV h.blk
theorem Lw.on {L:List Sr}{Lb:Nat}{wi:World}(h:Lw w L Lb W i cur wr)(hb:Below wr.heap.size wr wi):Lw w L Lb W i cur wi:=
 ⟨h.below.trans (hb.mono (FW h.lt)),(hb.block _ h.lt).trans h.blk,h.size,h.row⟩
theorem Lw.put {L:List Sr}{Lb:Nat}(h:Lw w L Lb W i cur wr)(hi:i<L.length){v:Value}(hv:w.cell? ⟨L[i].2.1,L[i].2.2.1+3,none⟩=some v):
  Lw w L Lb W (i+1) ((cur.setIfInBounds (i*2) (.int .i64 L[i].1)).setIfInBounds (i*2+1) v) ((wr.setCell ⟨Lb,i*2,none⟩ (.int .i64 L[i].1)).setCell ⟨Lb,i*2+1,none⟩ v):=by
 refine ⟨(h.below.setCell (p:=⟨Lb,i*2,none⟩) (P6 _) _).setCell (p:=⟨Lb,i*2+1,none⟩) (P6 _) _,Q5 (Q5 h.blk),by simpa using h.size,λj hj bZ=> ?_⟩;have hs:=h.size;by_cases e:j=i
 ·subst e;refine ⟨?_,?_⟩
  ·rw [Q9,P7 (by omega),Q9,Pc rfl,Pc (by omega)]
  rw [Q9,Pc rfl,Pc (by simp;omega),hv]
 obtain ⟨r1,r2⟩:=h.row j hj (by omega);refine ⟨?_,?_⟩
 ·rw [Q9,P7 (by omega),Q9,P7 (by omega),r1]
 rw [Q9,P7 (by omega),Q9,P7 (by omega),r2]
theorem Lw.lines {L:List Sr}{Lb:Nat}(h:Lw w L Lb W L.length cur wr)(hk:OZ S w wr)(hp:∀s∈L,RN w S s.2.1 s.2.2.1 s.2.2.2):UZ wr (λb=>S b\/b=Lb) (.slice (some ⟨Lb,0,none⟩) L.length L.length) (RX (L.map sS)):=by
 have hl:RX (L.map sS)=L.map λs=>(s.1,s.2.2.2.kids):=by
  unfold RX;rw [TL]
  rfl
 rw [hl];by_cases h0:L=[]
 ·subst h0;exact .inl ⟨rfl,_,_,rfl⟩
 refine .inr ⟨Lb,0,L.length,by rw [Qb],by simpa using h0,by simp,λj hj=> ?_⟩;have aJ:j<L.length:=by simpa using hj
 obtain ⟨r1,r2⟩:=h.row j aJ aJ;obtain ⟨_,_,_,_,_,_,ad,cap,c3,hP⟩:=(hp L[j] (Px aJ)).open;rw [R7];refine ⟨.inr rfl,?_,ad,cap,?_,(hP.on hk).up λb hb=> .inl hb⟩
 ·rw [Rp];exact P5 h.blk r1
 rw [Rp];exact P5 h.blk (r2.trans c3)
theorem tq0 {b:Nat}{k:Kn}(fa:Option Addr)(fl fc:Nat)(sv:Value)(af:List Sp)(con:Qg)(path:List Nat)(pa:Option Addr)(pc:Nat)(hS:∀b,S b->b<w.heap.size)(hM:PP w b k)(hp:Q3 w S sv af)(hP:Pv w S (.slice pa path.length pc) path)
  (hbig:af.length<=200) (jc:con.length<140737488355328) (au:∀s∈af,s.1<200) (hf:∀s∈af,(O' k con).2.2<=s.2.kids.length) (IK:(O' k con).2.2<100000):
  Calls Tryz.prog 73 #[.agg #[.slice fa fl fc,.map (some b)],sv,.string ⟨con.toArray⟩,.slice pa path.length pc] w λr w'=>Below w.heap.size w w'/\∃v,r= .returned v/\Qw w' (λb=>S b\/(w.heap.size<=b/\b<w'.heap.size)) v (within k af con path):=by
 obtain ⟨L,hL,ay,dV⟩:=hp.list;have aA:L.length<=200:=by rw [<-hL,Qb] at hbig;exact hbig
 have gz:=P4 dV;have HS:=P4 hS;have HM:=P4 hM;have mU:=P4 hP;have HL:=P4 hL;have HQ:=S6 jc au hf IK;obtain ⟨ad,cap,rfl,bW⟩:=ay.open;have bR:=P4 bW;have hW:∃W,W=w.alloc (Obj.cells #[.slice fa fl fc,.map (some b)] 69)/\Below w.heap.size w W/\W.heap.size=w.heap.size+1/\W.cell? ⟨w.heap.size,1,none⟩=some (.map (some b)):=⟨_,rfl,(Pb _ _).alloc (P6 _) _,by simp,P0 (Qn w _) rfl⟩;obtain ⟨W,hW,an,aO,d1⟩:=hW;have dD:=Ro an aO d1;obtain ⟨c0,fp,hc0⟩:=KW W L.length (by omega);rw [aO] at fp;have HX:Hid (Lw w L (w.heap.size+1) (W.alloc (.cells c0 104)) 0 c0 (W.alloc (.cells c0 104))):=⟨Pb _ _,by have:=PF W (.cells c0 104);rwa [aO] at this,hc0,λj _ h=>by omega⟩;have jd:Hid (Below (w.heap.size+1) W (W.alloc (.cells c0 104))):=by
  have:=(Pb W.heap.size W).alloc (P6 _) (.cells c0 104)
  rwa [aO] at this
 generalize eM:W.alloc (.cells c0 104)=W2 at *
 clear eM ay bW dV hS hL hbig hp an d1 hM hP hc0 jc au hf IK;have Dn:=P4 aO;clear aO;go_enter Tryz.func73,Tryz.ntmps73
 go_upto_region 1 with fail
 rw [<-hW];clear hW;go_wp2
 go_loopw [17] (λiv wr=>∃(i:Nat) (cur:Array Value),i<=L.length/\iv= .int .i64 i/\Hid (Lw w L (w.heap.size+1) W2 i cur wr)) (λiv _=>L.length-(intOf iv).toNat)
 case atStart=>exact ⟨0,c0,by omega,by go_num,HX.out⟩
 obtain ⟨i,cur,hi,rfl,HT⟩:=hrel;have HB:=P4 (jd.trans HT.below);have aV:=P4 (dD.1.trans (HB.mono (by omega)));by_cases ag:i<L.length
 ·obtain ⟨g,o,rfl,hc,hr⟩:=bR.out (λe=>by rw [e] at ag;simp at ag);obtain ⟨s0,q1,q2⟩:=hr i ag;have hk:=OZ.of aV.out HS.out;have q1:=(hk.cell (p:=⟨g,o+i*2,none⟩) s0).trans q1;have q2:=(hk.cell (p:=⟨g,o+i*2+1,none⟩) s0).trans q2;obtain ⟨pL,_,_,_,_,_,pr,cap3,t3,_⟩:=(gz.out L[i] (Px ag)).open;have HV:=P4 t3;have t3:=(hk.cell (p:=⟨L[i].2.1,L[i].2.2.1+3,none⟩) pL).trans t3;have hsz:w.heap.size+1<wr.heap.size:=HT.lt;have nG:L[i].2.1<wr.heap.size:=by have:=HS.out _ pL;omega
  have i1:(0:Int)<=(i:Int):=by omega
  have i2:(i:Int)<(L.length:Int):=by omega
  go_upto_region 5 with fail
  have aD:∃W1,W1=wr.alloc (Obj.cells #[.int .i64 L[i].1,.pointer (some ⟨L[i].2.1,L[i].2.2.1,none⟩)] 134)/\Below wr.heap.size wr W1/\W1.heap.size=wr.heap.size+1/\W1.cell? ⟨wr.heap.size,0,none⟩=some (.int .i64 L[i].1)/\W1.cell? ⟨wr.heap.size,1,none⟩=some (.pointer (some ⟨L[i].2.1,L[i].2.2.1,none⟩)):=⟨_,rfl,(Pb _ _).alloc (P6 _) _,by simp,P0 (Qn wr _) rfl,P0 (Qn wr _) rfl⟩;obtain ⟨W1,aD,hb1,bH,x0,x1⟩:=aD;rw [<-aD];clear aD;have t3:=(hb1.cell (p:=⟨L[i].2.1,L[i].2.2.1+3,none⟩) nG).trans t3;have fW:=P4 (HT.on hb1);have aT:=fW.size;have y0:=P5 fW.blk (Rm (show i*2<cur.size by omega));have y1:=P5 fW.blk (Rm (show i*2+1<cur.size by omega));have z0:=Pp (o:=i*2) fW.blk;have z1:=Pp (o:=i*2+1) fW.blk;generalize cur[i*2]=Do at y0;generalize cur[i*2+1]=GR at y1;generalize L[i].2.2.2.kids.length=nk at *
  clear bH hb1 aT q1 q2 hk hr
  go_region
  all_goals
   go_wp2
   go_roundw
   case rel=>exact ⟨i+1,_,ag,by go_num,(fW.put ag HV.out).on ⟨rfl,rfl,rfl,P6 _,λ_ _=>rfl⟩⟩
   case measure=>simp [intOf];omega
 obtain rfl:i=L.length:=by omega
 have hk:OZ S w wr:=OZ.of aV.out HS.out;have Ab:=HT.lines hk gz.out;have hlt:=HT.lt;have d1:=(HB.cell (p:=⟨w.heap.size,1,none⟩) (by simp)).trans dD.2.2;have qI:PP wr b k:=HM.on (aV.block b (Mv.lt HM.out));have hl:=qI.look1 con HQ.1;unfold kV at hl;have CC:=LM (λb=>S b\/b=w.heap.size+1) path pa pc (O' k con).2.2 (RX (L.map sS)) (.slice (some ⟨w.heap.size+1,0,none⟩) L.length L.length) wr (λb hb=>by
  rcases hb with hb | rfl
  ·have:=HS.out b hb;have:=aV.size;omega
  exact hlt) ((mU.on hk).up λb hb=> .inl hb) HQ.2.2.2 Ab (λl hl=>by
  obtain ⟨s,hs,rfl⟩:=PI.1 hl;exact HQ.out.2.1 s (by rw [<-HL.out];exact hs)) (λl hl=>by
  obtain ⟨s,hs,rfl⟩:=PI.1 hl;refine ⟨HQ.out.2.2.1 s (by rw [<-HL.out];exact hs),?_⟩;obtain ⟨r,hr,rfl⟩:=PI.1 hs;exact (gz.out r hr).open.2.2.2.2.2.1) (by simp [RX];omega)
 have HE:Hid (QA path (O' k con).2.2 (RX (L.map sS))=within k af con path):=by
  show _=_;rw [HL.out]
  rfl
 have hsz:w.heap.size+1<wr.heap.size:=hlt;generalize (O' k con).2.2=fn at *
 generalize (O' k con).1=f1 at *
 generalize (O' k con).2.1=f2 at *
 have aY:=Z2 f1 f2 fn wr;clear Ab hk qI gz bR
 go_wp2_with (go_at_call 51;(with_reducible refine Pe CC ?_);rintro e' w1 ⟨hb1,v,rfl,hcols⟩)
 go_ret;refine ⟨aV.trans (hb1.mono aV.size),v,rfl,?_⟩;rw [HE.out] at hcols;refine hcols.up λb hb=> ?_;have:=hb1.size;have:=aV.size;rcases hb with (hb | rfl) | hb
 ·exact .inl hb
 ·exact .inr ⟨by omega,by omega⟩
 exact .inr ⟨by omega,by omega⟩
