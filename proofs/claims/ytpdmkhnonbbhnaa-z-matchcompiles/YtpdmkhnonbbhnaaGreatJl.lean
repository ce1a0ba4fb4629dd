import Derived.Test.YtpdmkhnonbbhnaaGreatJk
import Derived.Test.YtpdmkhnonbbhnaaGreatMtx
import Derived.Test.YtpdmkhnonbbhnaaGreatMfx
import Derived.Test.YtpdmkhnonbbhnaaGreatMEx
import Derived.Test.YtpdmkhnonbbhnaaGreatWa
namespace Go.Proofs.YtpdmkhnonbbhnaaGreat
open Go.RowKit Go.Maps
set_option maxHeartbeats 32000000
set_option maxRecDepth 20000
variable {w w':World}{lo hi b:Nat}{v0 v1 v2:Value}
theorem Zm:∀fs:List Pu,(fs.map λf=>f.1.length).sum<=(fs.map RZ).sum
 | []=>P6 _
 | f::fs=>by
  have:=Zm fs;simp only [Re,SO,RZ] at *
  omega
theorem AP:∀ps:List Pt,∃D,∀p∈ps,p.1<=D
 | []=>⟨0,λp hp=>by simp at hp⟩
 | q::ps=>by
  obtain ⟨D,h⟩:=AP ps;refine ⟨max D q.1,λp hp=> ?_⟩;rcases Qa.1 hp with rfl | hp
  ·omega
  have:=h p hp;omega
theorem Zv {α:Type}(f:α->Nat):∀(l:List α) (x:α),x∈l->f x<=(l.map f).sum
 | a::l,x,h=>by
  rw [Re,SO];rcases Qa.1 h with rfl | h
  ·omega
  have:=Zv f l x h;omega
theorem CX {S:Nat->Prop}{v:Value}{fs:List Pu}(h:PH w S v fs):∀f∈fs,∀s∈f.1,s.length<140737488355328:=λf hf s hs=>by
 obtain ⟨i,hi,rfl⟩:=RO hf;rcases h with ⟨h,_⟩ | ⟨g,o,cap,_,_,_,h4⟩
 ·rw [h] at hi;simp at hi
 obtain ⟨_,⟨ad,cp,_,q⟩,_⟩:=h4 i hi;obtain ⟨j,hj,rfl⟩:=RO hs;rcases q with ⟨q,_⟩ | ⟨g',o',cap',_,_,_,q4⟩
 ·rw [q] at hj;simp at hj
 exact (q4 j hj).2.2
def IE (lo hi:Nat)(w w':World):Prop:=∀y,lo<=y->y<hi->w'.heap[y]? =w.heap[y]?
theorem IE.of (h:Below w.heap.size w w')(hh:hi<=w.heap.size):IE lo hi w w':=λy _ hy=>h.block y (by omega)
theorem IE.trans {a b c:World}(h:IE lo hi a b)(k:IE lo hi b c):IE lo hi a c:=λy h1 h2=>(k y h1 h2).trans (h y h1 h2)
theorem IE.sub {np aB:Nat}(h:IE lo hi w w')(h1:lo<=np)(h2:aB<=hi):IE np aB w w':=λy q1 q2=>h y (by omega) (by omega)
theorem SR {v3 v4:Value}(h:w.heap[b]? =some (.cells #[v0,v1,v2,v3,v4] 30 (0,0))):w.cell? ⟨b,0,none⟩=some v0/\w.cell? ⟨b,1,none⟩=some v1/\w.cell? ⟨b,2,none⟩=some v2/\w.cell? ⟨b,3,none⟩=some v3/\w.cell? ⟨b,4,none⟩=some v4:=⟨P0 h rfl,P0 h rfl,P0 h rfl,P0 h rfl,P0 h rfl⟩
theorem SS (h:w.heap[b]? =some (.cells #[v0,v1,v2] 33 (0,0))):w.cell? ⟨b,0,none⟩=some v0/\w.cell? ⟨b,1,none⟩=some v1/\w.cell? ⟨b,2,none⟩=some v2:=⟨P0 h rfl,P0 h rfl,P0 h rfl⟩
theorem Zu (w:World)(c d:Array Value):Below w.heap.size w ((w.alloc (.cells c 30)).alloc (.cells d 33))/\((w.alloc (.cells c 30)).alloc (.cells d 33)).heap.size=w.heap.size+2/\((w.alloc (.cells c 30)).alloc (.cells d 33)).heap[w.heap.size]? =some (.cells c 30 (0,0))/\((w.alloc (.cells c 30)).alloc (.cells d 33)).heap[w.heap.size+1]? =some (.cells d 33 (0,0)):=by
 refine ⟨((Pb _ _).alloc (P6 _) _).alloc (by simp) _,by simp,?_,?_⟩
 ·rw [Qq _ _ _ (by simp)];exact PF _ _
 have:=PF (w.alloc (.cells c 30)) (.cells d 33);simpa using this
theorem yu1 {F:Nat}(hF:F=5001){w:World}{S:Nat->Prop}(fs:List Pu)(rows:List (List Pt))(fa ra:Option Addr)(fc rc:Nat)(hS:∀b,S b->b<w.heap.size)(ee:PH w S (.slice fa fs.length fc) fs)(hR:RH w S (.slice ra rows.length rc) rows)(aY:fs.length<140737488355328)(cH:rows.length<140737488355328)(dU:∀r∈rows,r.length<140737488355328)(pA:∀f∈fs,f.1.length<140737488355328/\f.2.length<140737488355328):
  Calls Tryz.prog 3 #[.slice fa fs.length fc,.slice ra rows.length rc] w λr w'=>Below w.heap.size w w'/\r= .returned (.bool true):=by
 have br:Hid ((∀b,S b->b<w.heap.size)/\PH w S (.slice fa fs.length fc) fs/\RH w S (.slice ra rows.length rc) rows):=⟨hS,ee,hR⟩;have HF:Hid (F=5001):=hF;have rX:Hid (∀u,Below w.heap.size w u->Calls Tryz.prog 5 #[.slice fa fs.length fc,.slice ra rows.length rc] u (tj0 fs rows u)):=λu hb=>ax1 (S:=S) fs rows fa ra fc rc (λb h=>PQ (hS b h) hb.size) (ee.on (OZ.of hb hS)) (hR.on (OZ.of hb hS)) aY cH dU pA;clear hS ee hR aY cH dU pA hF;have CA:=bd1 w;go_enter Tryz.func3,Tryz.ntmps3
 go_upto_region 5 with (first
  | (go_at_call 4;(with_reducible refine Pe CA ?_);rintro e' w1 ⟨hb1,rfl⟩;have CL:=rX.out w1 hb1)
  | (go_at_call 5;(with_reducible refine Pe CL ?_);rintro e' w2 ⟨hb2,sm,rfl,hsm⟩))
 have fT:Hid (sm=true->_):=hsm;have aS:Hid (Below w.heap.size w w2):=hb1.trans (hb2.mono hb1.size);clear hsm hb1 hb2 CL CA rX;cases sm with
 | false=>
  go_wp2;go_ret;exact ⟨aS.out,rfl⟩
 | true=>
  have iw:Hid (rows.length+fs.length+(rows.map Q6).sum+(fs.map RZ).sum<=10000):=fT.out rfl;have nr:Hid (PH w2 (λy=>y<w2.heap.size) (.slice fa fs.length fc) fs/\RH w2 (λy=>y<w2.heap.size) (.slice ra rows.length rc) rows):=by
   have hb:=aS.out;have h:=br.out;have hk:=OZ.of hb h.1;have fE:∀y,S y->y<w2.heap.size:=λy hy=>PQ (h.1 y hy) hb.size;exact ⟨(h.2.1.on hk).up fE,(h.2.2.on hk).up fE⟩
  have CC:Calls Tryz.prog 6 #[.slice fa fs.length fc,.slice ra rows.length rc] w2 (U7 F fs rows (λy=>y<w2.heap.size) w2):=by
   have hr:=iw.out;have:=Zm fs;exact (LZ HF.out fs rows fa fc _ (λ_ h=>h) nr.out.1 nr.out.2 (by omega) (by omega) (by omega) (by omega)).mono λr w' h=>Vg (by rw [HF.out];omega) h
  clear fT br
  go_upto_region 8 with (first
   | (go_at_call 6;(with_reducible refine Pe CC ?_);rintro e' w3 ⟨hb3,e0,o0,x0,ad1,cp1,ad2,cp2,hci,rfl,han⟩;obtain ⟨ta,tb,pa,pl,pc,ca,cl,cc,ea,el,ec,rfl⟩:=han.1.parts;unfold Se;have HB3:Hid (Below w2.heap.size w2 w3):=hb3;have cE:Hid (RR F fs rows e0 o0):=hci;have tC:Hid (An F w3 (λy=>y<w2.heap.size\/(w2.heap.size<=y/\y<w3.heap.size)) (P8 o0) (.agg #[.int .i64 ta,.int .i64 tb,.slice pa pl pc,.slice ca cl cc,.slice ea el ec]) ad1 cp1 ad2 cp2):=han;clear hb3 hci han))
  clear CC;obtain ⟨W0,fV⟩:∃W0,W0=(w3.alloc (Obj.cells #[.int .i64 ta,.int .i64 tb,.slice pa pl pc,.slice ca cl cc,.slice ea el ec] 30)).alloc (Obj.cells #[.bool (P8 o0).2.1,.slice ad1 (P8 o0).2.2.1.length cp1,.slice ad2 (P8 o0).2.2.2.length cp2] 33):=⟨_,rfl⟩;rw [<-fV];have nt:Below w3.heap.size w3 W0:=by rw [fV];exact ((Pb _ _).alloc (P6 _) _).alloc (by simp) _
  have tD:W0.heap.size=w3.heap.size+2:=by rw [fV];simp
  have pB:Hid (Below w.heap.size w W0/\(PH W0 (λy=>y<W0.heap.size) (.slice fa fs.length fc) fs/\RH W0 (λy=>y<W0.heap.size) (.slice ra rows.length rc) rows)/\An F W0 (λy=>y<W0.heap.size) (P8 o0) (.agg #[.int .i64 ta,.int .i64 tb,.slice pa pl pc,.slice ca cl cc,.slice ea el ec]) ad1 cp1 ad2 cp2/\W0.heap[w3.heap.size]? =some (.cells #[.int .i64 ta,.int .i64 tb,.slice pa pl pc,.slice ca cl cc,.slice ea el ec] 30 (0,0))/\W0.heap[w3.heap.size+1]? =some (.cells #[.bool (P8 o0).2.1,.slice ad1 (P8 o0).2.2.1.length cp1,.slice ad2 (P8 o0).2.2.2.length cp2] 33 (0,0))/\w.heap.size<=w3.heap.size):=by
   have h3:=HB3.out;have tE:Below w2.heap.size w2 W0:=h3.trans (nt.mono h3.size);have mx:=h3.size;refine ⟨aS.out.trans (tE.mono aS.out.size),⟨(nr.out.1.on (OZ.of tE λ_ h=>h)).up λy hy=>by omega,(nr.out.2.on (OZ.of tE λ_ h=>h)).up λy hy=>by omega⟩,tC.out.on (OZ.of nt λy hy=>by omega) λy hy=>by omega,?_,?_,PZ aS.out.size mx⟩
   ·rw [fV,Qq _ _ _ (by simp)];exact PF _ _
   have:=PF (w3.alloc (Obj.cells #[.int .i64 ta,.int .i64 tb,.slice pa pl pc,.slice ca cl cc,.slice ea el ec] 30)) (Obj.cells #[.bool (P8 o0).2.1,.slice ad1 (P8 o0).2.2.1.length cp1,.slice ad2 (P8 o0).2.2.2.length cp2] 33);rw [fV];simpa using this
  clear fV nt tC HB3 aS nr;have CF:Calls Tryz.prog 7 #[.slice fa fs.length fc] W0 (FT fs W0):=by
   have hr:=iw.out;refine WI (λ_ h=>h) pB.out.2.1.1 (by omega) λf hf=> ?_;have h1:=Zv RZ fs f hf;have h2:RZ f=f.1.length+f.2.length:=rfl;omega
  go_upto_region 11 with (first
   | (go_at_call 7;(with_reducible refine Pe CF ?_);rintro e' Wf ⟨Gq,G,C,gb,es,rfl,hlaid⟩;have my:Hid (Below W0.heap.size W0 Wf/\Laid W0.heap.size fs G C gb es Wf):=⟨Gq,hlaid⟩;clear Gq hlaid))
  clear CF;obtain ⟨bb5,cn6,cb5,az2,ay7⟩:=info_parts Tryz.info31;have Gr:Hid (∀j (h:j<rows.length) (wr:World),Below W0.heap.size W0 wr->∃g o ad cap,ra=some ⟨g,o,none⟩/\rows.length<=rc/\g<W0.heap.size/\wr.cell? ⟨g,o+j,none⟩=some (.slice ad rows[j].length cap)/\Pl wr (λy=>y<W0.heap.size) (.slice ad rows[j].length cap) rows[j]):=λj hj wr hb=>by
   rcases pB.out.2.1.2 with ⟨h,_⟩ | ⟨g,o,cap,h1,h2,h3,h4⟩
   ·rw [h] at hj;simp at hj
   obtain ⟨e1,_,e2⟩:=RM h1;obtain ⟨q0,ad,cp,q1,q2⟩:=h4 j hj;rw [R4] at q1;exact ⟨g,o,ad,cp,e1,by rw [e2];exact h3,q0,(Qm (hb.block g q0) _).trans q1,q2.on λy hy=>hb.block y hy⟩
  have mz:Hid (∀j (h:j<rows.length),Q6 rows[j]<=10000):=λj hj=>by
   have:=Zv Q6 rows _ (Px hj);have:=iw.out;omega
  have cH:rows.length<=10000:=by have:=iw.out;omega
  go_loopw [11,12] (λiv kv wr=>∃(i:Nat) (l:List Ir) (ia:Option Addr) (ic:Nat),i<=rows.length/\kv= .int .i64 i/\l.length=i/\iv= .slice ia i ic/\Hid (Below Wf.heap.size Wf wr/\Irs Wf.heap.size l (.slice ia i ic) wr/\l.map (·.2.1)=rows.take i)) (λ_ kv _=>rows.length-(intOf kv).toNat)
  case atStart=>exact ⟨0,[],none,0,by omega,by go_num,rfl,rfl,Pb _ _,Irs.nil _ _,rfl⟩
  obtain ⟨i,l,ia,ic,hi,rfl,hl,rfl,HI⟩:=hrel;have az:Below W0.heap.size W0 wr:=my.out.1.trans (HI.out.1.mono my.out.1.size);by_cases ag:i<rows.length
  ·obtain ⟨g,o,ad,cap,rfl,fF,dh,q,hp⟩:=Gr.out i ag wr az;have qu:=az.size;obtain ⟨D,hD⟩:=AP rows[i];have CN:=MH D rows[i] hD (by have:=mz.out i ag;omega) wr (λy=>y<W0.heap.size) ad cap (λy hy=>by omega) hp;have hown:=HI.out.2.1.out;have i1:(0:Int)<=(i:Int):=by omega
   have i2:(i:Int)<(rows.length:Int):=by omega
   have mA:Hid (i<rows.length):=ag;have Cr:Wf.heap.size<=wr.heap.size:=HI.out.1.size;have k8:Hid (rows.take (i+1)=rows.take i++[rows[i]]):=Yj ag;clear hp hD az;generalize rows[i]=row at *
   subst hl
   go_wp2_with (first
    | (go_at_call 8;(with_reducible refine Pe CN ?_);rintro e' w5 ⟨hb5,gt,capt,bs,rfl,lC,hnd,hbs⟩;have b8:w5.ownsRow Wf.heap.size 31 1 (.slice ia l.length ic) l.length (l.map (·.1)):=WM hown hb5;have hw5:wr.heap.size<=w5.heap.size:=hb5.size;have k9:Hid (Below wr.heap.size wr w5/\Tw w5 (D+1) (.slice (some ⟨gt,0,none⟩) row.length capt) row bs/\bs.Nodup/\∀b∈bs,wr.heap.size<=b/\b<w5.heap.size):=⟨hb5,lC,hnd,hbs⟩;clear hb5 lC hnd hbs)
    | (at_builtin;refine wpList_append_lies _ rfl _ _ 23 rfl Wf.heap.size 31 bb5 _ 1 24 Tryz.underlying23 cn6 cb5 az2 ay7 rfl (by decide) (.slice ia l.length ic) l.length (l.map (·.1)) rfl (b8.alloc _) ⟨w5.heap.size,0,none⟩ 1 1 [.slice (some ⟨gt,0,none⟩) row.length capt] rfl rfl (World.news_of_block (Qn w5 _)) (by intro u hu;simp at hu;rcases hu with rfl;rfl) (by omega) (by unfold maxLen;omega) (by omega) (by simp;omega) (w5.heap.size+1) (by simp) ?_;intro g7 gh W7 dO dG gW nh))
   have bj4:Hid (Below Wf.heap.size Wf W7/\Irs Wf.heap.size (l++[(.slice (some ⟨gt,0,none⟩) row.length capt,row,bs)]) (.slice (some ⟨g7,0,none⟩) (l.length+1) gh) W7/\(l++[((.slice (some ⟨gt,0,none⟩) row.length capt,row,bs):Ir)]).map (·.2.1)=rows.take (l.length+1)):=by
    obtain ⟨t1,t2,t3,t4⟩:=k9.out;refine ⟨?_,HI.out.2.1.put Cr t1 t2 t3 t4 dO dG gW,?_⟩
    ·have hb5:Below Wf.heap.size Wf w5:=HI.out.1.trans (t1.mono Cr);exact (hb5.alloc hb5.size _).grown dG (by simp;omega) λy hy=>(hown.lt y hy).1
    rw [R6,HI.out.2.2,k8.out]
    rfl
   exact ⟨⟨l.length+1,l++[((.slice (some ⟨gt,0,none⟩) row.length capt,row,bs):Ir)],some ⟨g7,0,none⟩,gh,mA.out,by go_num,by simp,rfl,bj4.out⟩,by simp [intOf];have:=mA.out;omega⟩
  obtain rfl:i=rows.length:=by omega
  obtain ⟨Wi,bt4⟩:∃x,x=wr:=⟨_,rfl⟩;subst bt4;have qw:Hid (Below W0.heap.size W0 Wi/\Below Wf.heap.size Wf Wi/\Irs Wf.heap.size l (.slice ia rows.length ic) Wi/\l.map (·.2.1)=rows):=by
   have h3:=HI.out.2.2;rw [QM] at h3;exact ⟨az,HI.out.1,HI.out.2.1,h3⟩
  have cX:Hid (l.length=rows.length):=hl;clear HI az hl hi ag;have tF:Hid (∀wr,IE W0.heap.size Wf.heap.size Wf wr->Wf.heap.size<=wr.heap.size->PH wr (λy=>y<wr.heap.size) (.slice (some ⟨G,0,none⟩) fs.length C) fs):=λwr h hs=>by
   have hl:=my.out.2.on (w':=wr) λy hy=>h y (my.out.2.lt y hy).1 (my.out.2.lt y hy).2;exact hl.fams (CX pB.out.2.1.1)
  have gL:Hid (∀wr,Below Wi.heap.size Wi wr->Calls Tryz.prog 9 #[.slice (some ⟨G,0,none⟩) fs.length C,.slice ia rows.length ic] wr (OF F fs rows wr)):=λwr hb=>by
   have hr:=iw.out;have hs:=Zm fs;obtain ⟨h1,h2,h3,h4⟩:=qw.out;have hfi:Below Wf.heap.size Wf wr:=h2.trans (hb.mono h2.size);obtain ⟨ad,cap,e,dU⟩:=(h3.on (w':=wr) λy _ hy=>hb.block y hy).rows;obtain ⟨q1,_,q2⟩:=RM e;subst q1 q2;rw [h4,cX.out] at dU;exact (zq HF.out fs rows (some ⟨G,0,none⟩) C _ (λ_ h=>h) (tF.out wr (IE.of hfi (P6 _)) hfi.size) dU (by omega) (by omega) (by omega)).mono λr w' h=>VG (by rw [HF.out];omega) h
  have tG:=gL.out Wi (Pb _ _)
  go_upto_region 15 with (first
   | (go_at_call 9;(with_reducible refine Pe tG ?_);rintro e' w6 ⟨hb1,e1,o1,x1,xa1,xc1,ya1,yc1,hci1,rfl,han1,how1⟩;obtain ⟨rfl,rfl⟩:=Ns cE.out hci1;obtain ⟨r',sb,sd,se,sf,sh,si,qy,sj,sl,pC,rfl⟩:=han1.1.parts;unfold Se;have xq:Hid (Below Wi.heap.size Wi w6/\An F w6 (λy=>Wi.heap.size<=y/\y<w6.heap.size) (P8 o0) (.agg #[.int .i64 r',.int .i64 sb,.slice sd se sf,.slice sh si qy,.slice sj sl pC]) xa1 xc1 ya1 yc1/\UF w6 Wi.heap.size w6.heap.size F (.agg #[.int .i64 r',.int .i64 sb,.slice sd se sf,.slice sh si qy,.slice sj sl pC]) xa1 (P8 o0).2.2.1.length xc1 ya1 (P8 o0).2.2.2.length yc1):=⟨hb1,han1,how1⟩;clear hb1 hci1 han1 how1))
  clear tG;obtain ⟨Wa,aD⟩:∃x,x=(w6.alloc (Obj.cells #[.int .i64 r',.int .i64 sb,.slice sd se sf,.slice sh si qy,.slice sj sl pC] 30)).alloc (Obj.cells #[.bool (P8 o0).2.1,.slice xa1 (P8 o0).2.2.1.length xc1,.slice ya1 (P8 o0).2.2.2.length yc1] 33):=⟨_,rfl⟩;rw [<-aD];have nx:Hid (Below w6.heap.size w6 Wa/\Wa.heap.size=w6.heap.size+2/\Wa.heap[w6.heap.size]? =some (.cells #[.int .i64 r',.int .i64 sb,.slice sd se sf,.slice sh si qy,.slice sj sl pC] 30 (0,0))/\Wa.heap[w6.heap.size+1]? =some (.cells #[.bool (P8 o0).2.1,.slice xa1 (P8 o0).2.2.1.length xc1,.slice ya1 (P8 o0).2.2.2.length yc1] 33 (0,0))):=by
   rw [aD];exact Zu _ _ _
  clear aD;have Gt:=gL.out Wa (xq.out.1.trans (nx.out.1.mono xq.out.1.size))
  go_upto_region 16 with (first
   | (go_at_call 9;(with_reducible refine Pe Gt ?_);rintro e' w7 ⟨hb2,e2,o2,x2,xa2,xc2,ya2,yc2,hci2,rfl,han2,how2⟩;obtain ⟨rfl,rfl⟩:=Ns cE.out hci2;obtain ⟨sq,sr,dH,ss,dI,fG,jD,fq,fH,jE,eB,rfl⟩:=han2.1.parts;unfold Se;have xr:Hid (Below Wa.heap.size Wa w7/\An F w7 (λy=>Wa.heap.size<=y/\y<w7.heap.size) (P8 o0) (.agg #[.int .i64 sq,.int .i64 sr,.slice dH ss dI,.slice fG jD fq,.slice fH jE eB]) xa2 xc2 ya2 yc2/\UF w7 Wa.heap.size w7.heap.size F (.agg #[.int .i64 sq,.int .i64 sr,.slice dH ss dI,.slice fG jD fq,.slice fH jE eB]) xa2 (P8 o0).2.2.1.length xc2 ya2 (P8 o0).2.2.2.length yc2):=⟨hb2,han2,how2⟩;clear hb2 hci2 han2 how2))
  clear Gt;obtain ⟨Wb,eM⟩:∃x,x=(w7.alloc (Obj.cells #[.int .i64 sq,.int .i64 sr,.slice dH ss dI,.slice fG jD fq,.slice fH jE eB] 30)).alloc (Obj.cells #[.bool (P8 o0).2.1,.slice xa2 (P8 o0).2.2.1.length xc2,.slice ya2 (P8 o0).2.2.2.length yc2] 33):=⟨_,rfl⟩;rw [<-eM];have jd:Hid (Below w7.heap.size w7 Wb/\Wb.heap.size=w7.heap.size+2/\Wb.heap[w7.heap.size]? =some (.cells #[.int .i64 sq,.int .i64 sr,.slice dH ss dI,.slice fG jD fq,.slice fH jE eB] 30 (0,0))/\Wb.heap[w7.heap.size+1]? =some (.cells #[.bool (P8 o0).2.1,.slice xa2 (P8 o0).2.2.1.length xc2,.slice ya2 (P8 o0).2.2.2.length yc2] 33 (0,0))):=by
   rw [eM];exact Zu _ _ _
  clear eM;clear gL;have HN:Hid (Below Wi.heap.size Wi Wb/\Below W0.heap.size W0 Wb/\Below Wa.heap.size Wa Wb/\W0.heap.size<=Wf.heap.size/\Wf.heap.size<=Wi.heap.size/\Wi.heap.size<=w6.heap.size/\Wa.heap.size=w6.heap.size+2/\Wa.heap.size<=w7.heap.size/\Wb.heap.size=w7.heap.size+2/\W0.heap.size=w3.heap.size+2):=by
   obtain ⟨h1,h2,_⟩:=qw.out;have k1:=xq.out.1;have k2:=nx.out;have k3:=xr.out.1;have k4:=jd.out;have s1:=k1.size;have s3:=k3.size;have dQ:Below Wa.heap.size Wa Wb:=k3.trans (k4.1.mono s3);have Gu:Below Wi.heap.size Wi Wa:=k1.trans (k2.1.mono s1);have lD:Below Wi.heap.size Wi Wb:=Gu.trans (dQ.mono Gu.size);exact ⟨lD,h1.trans (lD.mono h1.size),dQ,my.out.1.size,h2.size,s1,k2.2.1,s3,k4.2.1,tD⟩
  have tH:Hid (∀wr,IE Wi.heap.size Wa.heap.size Wb wr->An F wr (λy=>Wi.heap.size<=y/\y<w6.heap.size) (P8 o0) (.agg #[.int .i64 r',.int .i64 sb,.slice sd se sf,.slice sh si qy,.slice sj sl pC]) xa1 xc1 ya1 yc1/\UF wr Wi.heap.size w6.heap.size F (.agg #[.int .i64 r',.int .i64 sb,.slice sd se sf,.slice sh si qy,.slice sj sl pC]) xa1 (P8 o0).2.2.1.length xc1 ya1 (P8 o0).2.2.2.length yc1/\wr.heap[w6.heap.size]? =some (.cells #[.int .i64 r',.int .i64 sb,.slice sd se sf,.slice sh si qy,.slice sj sl pC] 30 (0,0))/\wr.heap[w6.heap.size+1]? =some (.cells #[.bool (P8 o0).2.1,.slice xa1 (P8 o0).2.2.1.length xc1,.slice ya1 (P8 o0).2.2.2.length yc1] 33 (0,0))):=λwr h=>by
   obtain ⟨k1,k2,k3⟩:=xq.out;obtain ⟨m1,m2,m3,m4⟩:=nx.out;have hb:=HN.out.2.2.1;have z:=k1.size;have hs:IE Wi.heap.size Wa.heap.size Wa wr:=(IE.of hb (P6 _)).trans h;have hq:∀y,Wi.heap.size<=y->y<w6.heap.size->wr.heap[y]? =w6.heap[y]? :=λy h1 h2=>(hs y h1 (by omega)).trans (m1.block y h2);exact ⟨k2.on (λy hy=>hq y hy.1 hy.2) λ_ h=>h,k3.on hq (P6 _) (P6 _),(hs _ (by omega) (by omega)).trans m3,(hs _ (by omega) (by omega)).trans m4⟩
  have C':Hid (∀wr,IE Wa.heap.size Wb.heap.size Wb wr->An F wr (λy=>Wa.heap.size<=y/\y<w7.heap.size) (P8 o0) (.agg #[.int .i64 sq,.int .i64 sr,.slice dH ss dI,.slice fG jD fq,.slice fH jE eB]) xa2 xc2 ya2 yc2/\UF wr Wa.heap.size w7.heap.size F (.agg #[.int .i64 sq,.int .i64 sr,.slice dH ss dI,.slice fG jD fq,.slice fH jE eB]) xa2 (P8 o0).2.2.1.length xc2 ya2 (P8 o0).2.2.2.length yc2/\wr.heap[w7.heap.size]? =some (.cells #[.int .i64 sq,.int .i64 sr,.slice dH ss dI,.slice fG jD fq,.slice fH jE eB] 30 (0,0))/\wr.heap[w7.heap.size+1]? =some (.cells #[.bool (P8 o0).2.1,.slice xa2 (P8 o0).2.2.1.length xc2,.slice ya2 (P8 o0).2.2.2.length yc2] 33 (0,0))):=λwr h=>by
   obtain ⟨k1,k2,k3⟩:=xr.out;obtain ⟨m1,m2,m3,m4⟩:=jd.out;have hb:=Pb Wb.heap.size Wb;have z:=k1.size;have hs:IE Wa.heap.size Wb.heap.size Wb wr:=(IE.of hb (P6 _)).trans h;have hq:∀y,Wa.heap.size<=y->y<w7.heap.size->wr.heap[y]? =w7.heap[y]? :=λy h1 h2=>(hs y h1 (by omega)).trans (m1.block y h2);exact ⟨k2.on (λy hy=>hq y hy.1 hy.2) λ_ h=>h,k3.on hq (P6 _) (P6 _),(hs _ (by omega) (by omega)).trans m3,(hs _ (by omega) (by omega)).trans m4⟩
  have gq:Hid (∀wr,IE 0 W0.heap.size Wb wr->An F wr (λy=>y<W0.heap.size) (P8 o0) (.agg #[.int .i64 ta,.int .i64 tb,.slice pa pl pc,.slice ca cl cc,.slice ea el ec]) ad1 cp1 ad2 cp2/\(PH wr (λy=>y<W0.heap.size) (.slice fa fs.length fc) fs/\RH wr (λy=>y<W0.heap.size) (.slice ra rows.length rc) rows)/\wr.heap[w3.heap.size]? =some (.cells #[.int .i64 ta,.int .i64 tb,.slice pa pl pc,.slice ca cl cc,.slice ea el ec] 30 (0,0))/\wr.heap[w3.heap.size+1]? =some (.cells #[.bool (P8 o0).2.1,.slice ad1 (P8 o0).2.2.1.length cp1,.slice ad2 (P8 o0).2.2.2.length cp2] 33 (0,0))):=λwr h=>by
   obtain ⟨_,⟨f1,f2⟩,f3,f4,f5,_⟩:=pB.out;have eh:=HN.out.2.2.2.2.2.2.2.2.2;have hq:∀y,y<W0.heap.size->wr.heap[y]? =W0.heap[y]? :=λy hy=>(h y (TD _) hy).trans (HN.out.2.1.block y hy);have hk:OZ (λy=>y<W0.heap.size) W0 wr:=λy hy=>hq y hy;exact ⟨f3.on hk λ_ h=>h,⟨f1.on hk,f2.on hk⟩,(hq _ (by omega)).trans f4,(hq _ (by omega)).trans f5⟩
  have D0:Hid (∀wr,IE W0.heap.size Wf.heap.size Wb wr->Laid W0.heap.size fs G C gb es wr):=λwr h=>by
   have Gf:Below Wf.heap.size Wf Wb:=qw.out.2.1.trans (HN.out.1.mono qw.out.2.1.size);exact my.out.2.on λy hy=>(h y (my.out.2.lt y hy).1 (my.out.2.lt y hy).2).trans (Gf.block y (my.out.2.lt y hy).2)
  have D1:Hid (∀wr,IE Wf.heap.size Wi.heap.size Wb wr->Irs Wf.heap.size l (.slice ia rows.length ic) wr):=λwr h=>qw.out.2.2.1.on λy h1 h2=>(h y h1 h2).trans (HN.out.1.block y h2);have pD:Hid (Fine F (P8 o0).1 (P8 o0).2):=Dm (by rw [HF.out];omega) cE.out;have dl:Hid (∀wr,IE 0 W0.heap.size Wb wr->IE Wi.heap.size Wa.heap.size Wb wr->Wb.heap.size<=wr.heap.size->(Calls Tryz.prog 10 #[.agg #[.int .i64 r',.int .i64 sb,.slice sd se sf,.slice sh si qy,.slice sj sl pC],.agg #[.int .i64 ta,.int .i64 tb,.slice pa pl pc,.slice ca cl cc,.slice ea el ec]] wr λr w'=>r= .returned (.bool true)/\Below wr.heap.size wr w')/\(Calls Tryz.prog 11 #[.agg #[.bool (P8 o0).2.1,.slice xa1 (P8 o0).2.2.1.length xc1,.slice ya1 (P8 o0).2.2.2.length yc1],.agg #[.bool (P8 o0).2.1,.slice ad1 (P8 o0).2.2.1.length cp1,.slice ad2 (P8 o0).2.2.2.length cp2]] wr λr w'=>r= .returned (.bool true)/\Below wr.heap.size wr w')/\(wr.heap[w3.heap.size]? =some (.cells #[.int .i64 ta,.int .i64 tb,.slice pa pl pc,.slice ca cl cc,.slice ea el ec] 30 (0,0))/\wr.heap[w3.heap.size+1]? =some (.cells #[.bool (P8 o0).2.1,.slice ad1 (P8 o0).2.2.1.length cp1,.slice ad2 (P8 o0).2.2.2.length cp2] 33 (0,0)))/\wr.heap[w6.heap.size]? =some (.cells #[.int .i64 r',.int .i64 sb,.slice sd se sf,.slice sh si qy,.slice sj sl pC] 30 (0,0))/\wr.heap[w6.heap.size+1]? =some (.cells #[.bool (P8 o0).2.1,.slice xa1 (P8 o0).2.2.1.length xc1,.slice ya1 (P8 o0).2.2.2.length yc1] 33 (0,0))):=λwr h0 h1 hs=>by
   obtain ⟨a1,_,a2⟩:=gq.out wr h0;obtain ⟨b1,_,b2⟩:=tH.out wr h1;have n:=HN.out;obtain ⟨c1,c2⟩:=Nk pD.out (S:=λy=>y<wr.heap.size) (λ_ h=>h) (b1.on (OZ.refl _ _) λy hy=>by omega) (a1.on (OZ.refl _ _) λy hy=>by omega);exact ⟨c1,c2,a2,b2⟩
  have bx:Hid (∀wr,IE 0 W0.heap.size Wb wr->IE Wa.heap.size Wb.heap.size Wb wr->Wb.heap.size<=wr.heap.size->(Calls Tryz.prog 10 #[.agg #[.int .i64 sq,.int .i64 sr,.slice dH ss dI,.slice fG jD fq,.slice fH jE eB],.agg #[.int .i64 ta,.int .i64 tb,.slice pa pl pc,.slice ca cl cc,.slice ea el ec]] wr λr w'=>r= .returned (.bool true)/\Below wr.heap.size wr w')/\(Calls Tryz.prog 11 #[.agg #[.bool (P8 o0).2.1,.slice xa2 (P8 o0).2.2.1.length xc2,.slice ya2 (P8 o0).2.2.2.length yc2],.agg #[.bool (P8 o0).2.1,.slice ad1 (P8 o0).2.2.1.length cp1,.slice ad2 (P8 o0).2.2.2.length cp2]] wr λr w'=>r= .returned (.bool true)/\Below wr.heap.size wr w')/\(wr.heap[w3.heap.size]? =some (.cells #[.int .i64 ta,.int .i64 tb,.slice pa pl pc,.slice ca cl cc,.slice ea el ec] 30 (0,0))/\wr.heap[w3.heap.size+1]? =some (.cells #[.bool (P8 o0).2.1,.slice ad1 (P8 o0).2.2.1.length cp1,.slice ad2 (P8 o0).2.2.2.length cp2] 33 (0,0)))/\wr.heap[w7.heap.size]? =some (.cells #[.int .i64 sq,.int .i64 sr,.slice dH ss dI,.slice fG jD fq,.slice fH jE eB] 30 (0,0))/\wr.heap[w7.heap.size+1]? =some (.cells #[.bool (P8 o0).2.1,.slice xa2 (P8 o0).2.2.1.length xc2,.slice ya2 (P8 o0).2.2.2.length yc2] 33 (0,0))):=λwr h0 h1 hs=>by
   obtain ⟨a1,_,a2⟩:=gq.out wr h0;obtain ⟨b1,_,b2⟩:=C'.out wr h1;have n:=HN.out;obtain ⟨c1,c2⟩:=Nk pD.out (S:=λy=>y<wr.heap.size) (λ_ h=>h) (b1.on (OZ.refl _ _) λy hy=>by omega) (a1.on (OZ.refl _ _) λy hy=>by omega);exact ⟨c1,c2,a2,b2⟩
  have Gv:Hid (l.map (·.2.1)=rows):=qw.out.2.2.2;have ax6:Hid (∀y,(y=G\/y∈Sj es)->W0.heap.size<=y/\y<Wf.heap.size):=λy hy=>my.out.2.lt y (by rcases hy with h | h;exact .inl h;exact .inr (.inr h));have Gx:Hid (∀x∈l,∀b∈x.2.2,Wf.heap.size<=b/\b<Wi.heap.size):=λx hx b hb=>by
   obtain ⟨⟨dd,ht⟩,_,h3⟩:=qw.out.2.2.1.tw x hx;exact ⟨(h3 b hb).1,Tw.lt _ _ _ _ ht b hb⟩
  have Gy:Hid (∀y,(Value.slice ia rows.length ic).ownBlock=some y->y<Wi.heap.size):=λy hy=>(qw.out.2.2.1.out.lt y hy).2;have gr:Hid (Below w.heap.size w W0/\w.heap.size<=w3.heap.size):=⟨pB.out.1,pB.out.2.2.2.2.2⟩;clear my qw xq nx xr jd pB;have xt:Hid (∀wr,Below Wb.heap.size Wb wr->∀lo,IE lo Wb.heap.size Wb wr):=λwr h lo=>IE.of h (P6 _);obtain ⟨kR,_,⟨iy,iz⟩,fI,fJ⟩:=dl.out Wb (λ_ _ _=>rfl) (λ_ _ _=>rfl) (P6 _);obtain ⟨d0,d1,d2,d3,d4⟩:=SR iy;obtain ⟨f0,f1,f2,f3,f4⟩:=SR fI;clear iy fI iz fJ
  go_upto_region 17 with (first
   | (go_at_call 10;(with_reducible refine Pe kR ?_);rintro e' w8 ⟨rfl,hb8⟩;have vK:Hid (Below Wb.heap.size Wb w8):=hb8;clear hb8))
  clear d0 d1 d2 d3 d4 f0 f1 f2 f3 f4 kR;have hn:=HN.out;obtain ⟨_,Gz,⟨iy,iz⟩,fI,fJ⟩:=dl.out w8 ((xt.out w8 vK.out 0).sub (P6 _) (by omega)) ((xt.out w8 vK.out Wi.heap.size).sub (P6 _) (by omega)) vK.out.size;obtain ⟨d0,d1,d2⟩:=SS iz;obtain ⟨f0,f1,f2⟩:=SS fJ;clear iy fI iz fJ hn
  go_upto_region 21 with (first
   | (go_at_call 11;(with_reducible refine Pe Gz ?_);rintro e' w9 ⟨rfl,hb9⟩;have tB:Hid (Below Wb.heap.size Wb w9):=vK.out.trans (hb9.mono vK.out.size);clear hb9))
  clear d0 d1 d2 f0 f1 f2 Gz vK;have fD:Hid (∀i (h:i<rows.length),∃gI su sy g o ad cap,ia=some ⟨gI,0,none⟩/\rows.length<=ic/\ra=some ⟨g,o,none⟩/\rows.length<=rc/\∀wr,Below Wb.heap.size Wb wr->(wr.cell? ⟨gI,i,none⟩=some (.slice su rows[i].length sy)/\wr.cell? ⟨g,o+i,none⟩=some (.slice ad rows[i].length cap))/\(Calls Tryz.prog 12 #[.slice su rows[i].length sy,.slice ad rows[i].length cap] wr λr w'=>r= .returned (.bool true)/\Below wr.heap.size wr w')/\Calls Tryz.prog 13 #[.slice su rows[i].length sy] wr λr w'=>r= .returned (.bool true)/\Below wr.heap.size wr w'):=λi hi=>by
   have hn:=HN.out;have ag:i<l.length:=by rw [cX.out];exact hi
   have Bg:l[i].2.1=rows[i]:=by
    have:=Gv.out;have h2:=congrArg (λx:List (List Pt)=>x[i]?) this;simp only [X8,PR ag,PR hi,YM] at h2;exact Qs h2
   have hI:=D1.out Wb (λ_ _ _=>rfl);obtain ⟨gI,xu,su,sy,e1,e2,e3,e4,_,e5,e6⟩:=hI.at ag;obtain ⟨q1,_,q2⟩:=RM e1;subst q1 q2;obtain ⟨g,o,ad,cap,r1,r2,r3,r4,r5⟩:=Gr.out i hi Wb hn.2.1;rw [Bg] at e5 e6;refine ⟨gI,su,sy,g,o,ad,cap,rfl,by rw [<-cX.out];exact e2,r1,r2,λwr hb=> ?_⟩;have hs:=hb.size;obtain ⟨⟨dd,lC⟩,_,iR⟩:=hI.tw _ (Px ag);rw [e5,Bg] at lC;have tI:=Tw.on _ _ _ _ lC λb aj=>hb.block b (Tw.lt _ _ _ _ lC b aj);have hp1:=Tw.pats (S:=λy=>y<wr.heap.size) _ _ _ _ tI λb aj=>Tw.lt _ _ _ _ tI b aj;have hp2:=(r5.on (w':=wr) λy hy=>hb.block y (by omega)).up (S':=λy=>y<wr.heap.size) λy hy=>by omega
   have hz:=mz.out i hi;have bJ:=Xs rows[i];obtain ⟨D,hD⟩:=AP rows[i];exact ⟨⟨(Qm (hb.block gI e4) _).trans e6,(Qm (hb.block g (by omega)) _).trans r4⟩,Jz (D+1) _ _ _ wr _ (λp hp=>by have:=hD p hp;omega) (λ_ h=>h) (by omega) hp1 hp2,xw1 dd _ _ _ wr tI (by omega)⟩
  go_loopw [21] (λiv wr=>∃i:Nat,i<=rows.length/\iv= .int .i64 i/\Hid (Below Wb.heap.size Wb wr)) (λiv _=>rows.length-(intOf iv).toNat)
  case atStart=>exact ⟨0,by omega,by go_num,tB.out⟩
  obtain ⟨i,hi,rfl,HB⟩:=hrel;by_cases ag:i<rows.length
  ·obtain ⟨gI,su,sy,g,o,ad,cap,rfl,vL,rfl,fF,aQ⟩:=fD.out i ag;obtain ⟨ie,CP,_⟩:=aQ wr.drew HB.out.drew;have pF:Hid (∀wr,Below Wb.heap.size Wb wr->(wr.cell? ⟨gI,i,none⟩=some (.slice su rows[i].length sy)/\wr.cell? ⟨g,o+i,none⟩=some (.slice ad rows[i].length cap))/\_/\Calls Tryz.prog 13 #[.slice su rows[i].length sy] wr λr w'=>r= .returned (.bool true)/\Below wr.heap.size wr w'):=aQ;have i1:(0:Int)<=(i:Int):=by omega
   have i2:(i:Int)<(rows.length:Int):=by omega
   clear aQ
   go_upto_region 23 with fail
   go_region_held3 (λV=>V.cell? ⟨gI,i,none⟩=some (.slice su rows[i].length sy)/\V.cell? ⟨g,o+i,none⟩=some (.slice ad rows[i].length cap))
    (first | (with_reducible exact ie) | (with_reducible exact mw))
    (first
    | (go_at_call 12;(with_reducible refine Pe CP ?_);rintro e' dC ⟨rfl,hb10⟩;have ny:Below Wb.heap.size Wb dC:=HB.out.drew.trans (hb10.mono HB.out.drew.size);have mw:=(pF.out dC ny).1))
   have CM:=(pF.out dC ny).2.2;have tJ:=(pF.out dC ny).1.1;have xv:Hid (Below Wb.heap.size Wb dC):=ny;clear ie mw CP ny hb10 pF
   go_wp2_with (first
    | (go_at_call 13;(with_reducible refine Pe CM ?_);rintro e' w11 ⟨rfl,hb11⟩;have br2:Hid (Below Wb.heap.size Wb w11):=xv.out.trans (hb11.mono xv.out.size);clear hb11))
   exact ⟨⟨i+1,ag,by go_num,br2.out⟩,by simp [intOf];omega⟩
  obtain rfl:i=rows.length:=by omega
  obtain ⟨Wc,ba3⟩:∃x,x=wr:=⟨_,rfl⟩;subst ba3;clear fD hi ag tB;have hn:=HN.out;have CS:Calls Tryz.prog 14 #[.slice (some ⟨G,0,none⟩) fs.length C,.slice fa fs.length fc] Wc λr w'=>r= .returned (.bool true)/\Below Wc.heap.size Wc w':=by
   have hs:=HB.out.size;have hr:=iw.out;refine ys1 (D0.out Wc ((xt.out Wc HB.out W0.heap.size).sub (P6 _) (by omega))) (S:=λy=>y<Wc.heap.size) (λ_ h=>h) ((gq.out Wc ((xt.out Wc HB.out 0).sub (P6 _) (by omega))).2.1.1.up λy hy=>by omega) (by omega) λf hf=> ?_;have h1:=Zv RZ fs f hf;have h2:RZ f=f.1.length+f.2.length:=rfl;omega
  clear hn
  go_upto_region 28 with (first
   | (go_at_call 14;(with_reducible refine Pe CS ?_);rintro e' vM ⟨rfl,hb12⟩;have qz:Hid (Below Wb.heap.size Wb vM):=HB.out.trans (hb12.mono HB.out.size);clear hb12))
  clear CS HB;have hn:=HN.out;have az:=gr.out;obtain ⟨xw,xx,fI,fJ⟩:=tH.out vM ((xt.out vM qz.out Wi.heap.size).sub (P6 _) (by omega));have CO:Calls Tryz.prog 15 #[.agg #[.int .i64 r',.int .i64 sb,.slice sd se sf,.slice sh si qy,.slice sj sl pC],.agg #[.bool (P8 o0).2.1,.slice xa1 (P8 o0).2.2.1.length xc1,.slice ya1 (P8 o0).2.2.2.length yc1]] vM λr w'=>r= .returned (.bool true)/\Ows Wi.heap.size w6.heap.size vM w':=K6 xw xx pD.out (by have:=qz.out.size;omega);obtain ⟨d0,d1,d2,d3,d4⟩:=SR fI;obtain ⟨f0,f1,f2⟩:=SS fJ;clear fI fJ xw xx hn az
  go_upto_region 30 with (first
   | (go_at_call 15;(with_reducible refine Pe CO ?_);rintro e' Wd ⟨rfl,how⟩;have lB:Hid (Ows Wi.heap.size w6.heap.size vM Wd):=how;clear how))
  clear CO d0 d1 d2 d3 d4 f0 f1 f2;have by7:Hid (Irs Wf.heap.size l (.slice ia rows.length ic) Wd/\IE 0 Wf.heap.size Wb Wd/\IE w6.heap.size Wb.heap.size Wb Wd/\Wb.heap.size<=Wd.heap.size/\Below w.heap.size w Wd):=by
   have hn:=HN.out;have az:=gr.out;have h1:=qz.out;have h2:=lB.out;have s1:=h1.size;have s2:=h2.size;have q:∀y,y<Wb.heap.size->¬(Wi.heap.size<=y/\y<w6.heap.size)->Wd.heap[y]? =Wb.heap[y]? :=λy hy am=>(h2.block y (by omega) am).trans (h1.block y hy);refine ⟨D1.out Wd λy a b=>q y (by omega) (by omega),λy a b=>q y (by omega) (by omega),λy a b=>q y (by omega) (by omega),by omega,?_⟩;have vN:Below w.heap.size w Wb:=az.1.trans (hn.2.1.mono az.1.size);have sw:=vN.size;exact ⟨h2.os.trans (h1.os.trans vN.os),h2.tape.trans (h1.tape.trans vN.tape),h2.output.trans (h1.output.trans vN.output),by omega,λy hy=>(q y (by omega) (by omega)).trans (vN.block y hy)⟩
  clear lB qz;have am6:(rows.length:Int).tdiv 2=((rows.length / 2:Nat):Int):=by
   rw [Int.tdiv_eq_ediv_of_nonneg (by omega)];omega
  go_loopw [26] (λiv wr=>∃(i:Nat) (l':List Ir),i<=rows.length/\iv= .int .i64 i/\Hid (l'.Perm l/\Irs Wf.heap.size l' (.slice ia rows.length ic) wr/\IE 0 Wf.heap.size Wb wr/\IE w6.heap.size Wb.heap.size Wb wr/\Wb.heap.size<=wr.heap.size/\Below w.heap.size w wr)) (λiv _=>rows.length-(intOf iv).toNat)
  case atStart=>exact ⟨0,l,by omega,by go_num,List.Perm.refl _,by7.out⟩
  obtain ⟨i,l',hi,rfl,qA⟩:=hrel;by_cases ag:i<rows.length / 2
  ·have sD:(i:Int)<((rows.length / 2:Nat):Int):=by omega
   obtain ⟨hp,hI,h0,h6,hsz,az⟩:=qA.out;have aA:l'.length=rows.length:=by rw [hp.length_eq];exact cX.out
   obtain ⟨j,hj⟩:∃j,j=rows.length-1-i:=⟨_,rfl⟩;have aB:i<l'.length:=by omega
   have aJ:j<l'.length:=by omega
   have kf:Below wr.heap.size wr wr.drew:=(Pb _ _).drew;have Bk:Irs Wf.heap.size l' (.slice ia rows.length ic) wr.drew:=hI.on λy _ hy=>kf.block y hy;obtain ⟨gI,xu,xy,xz,e1,e2,e3,e4,⟨cur,e5,e6⟩,e7,e8⟩:=Bk.at aB;obtain ⟨gJ,ap7,qB,qC,m1,_,_,_,_,m7,m8⟩:=Bk.at aJ;obtain ⟨q1,q3,q2⟩:=RM e1;clear q3;subst q1 q2;have q1:=(RM m1).1;injection q1 with q1;injection q1 with q1;subst q1;have bu:Hid (∀U,U=(wr.drew.setCell ⟨gI,i,none⟩ (.slice qB l'[j].2.1.length qC)).setCell ⟨gI,j,none⟩ (.slice xy l'[i].2.1.length xz)->∃l2:List Ir,l2.Perm l/\Irs Wf.heap.size l2 (.slice (some ⟨gI,0,none⟩) rows.length ic) U/\IE 0 Wf.heap.size Wb U/\IE w6.heap.size Wb.heap.size Wb U/\Wb.heap.size<=U.heap.size/\Below w.heap.size w U):=λU hU=>by
    have hn:=HN.out;have cu:=gr.out;have qu:=Bk.swap aB aJ (by rw [aA]);rw [e7,m7,<-hU] at qu;have GA:gI<Wi.heap.size:=by
     have:=(D1.out Wb λ_ _ _=>rfl).out.lt gI rfl;have cj3:=Gy.out gI rfl;exact cj3
    have cM:∀y,y≠gI->U.heap[y]? =wr.heap[y]? :=λy hy=>by
     rw [hU,PX _ _ _ _ hy,PX _ _ _ _ hy]
     rfl
    have bj:U.heap.size=wr.heap.size:=by rw [hU];simp [World.setCell]
    refine ⟨_,(mj0 l' i j aB aJ).trans hp,qu,λy a b=>(cM y (by omega)).trans (h0 y a b),λy a b=>(cM y (by omega)).trans (h6 y a b),by omega,⟨?_,?_,?_,by omega,λy hy=>(cM y (by omega)).trans (az.block y hy)⟩⟩
    ·rw [hU];exact az.os
    ·rw [hU];exact az.tape
    rw [hU];exact az.output
   have y0:=Pp (o:=i) e5;have k5:=Q5 (i:=i) (v:= .slice qB l'[j].2.1.length qC) e5;have y1:=Pp (o:=j) k5;obtain ⟨u2,y2⟩:∃u,(wr.drew.setCell ⟨gI,i,none⟩ (.slice qB l'[j].2.1.length qC)).cell? ⟨gI,j,none⟩=some u:=⟨_,P0 k5 (Rm (by rw [Lf];omega))⟩;have aw:wr.drew.cell? ⟨gI,i,none⟩=some (.slice xy l'[i].2.1.length xz)/\wr.drew.cell? ⟨gI,j,none⟩=some (.slice qB l'[j].2.1.length qC):=⟨e8,m8⟩;have iu:IntKind.i64.wrap ((rows.length:Int)-1)=(rows.length:Int)-1:=by rw [RV];omega
   have hw2:IntKind.i64.wrap ((rows.length:Int)-1-(i:Int))=(j:Int):=by rw [RV];omega
   have i1:(0:Int)<=(i:Int):=by omega
   have i2:(i:Int)<(rows.length:Int):=by omega
   have i3:(0:Int)<=(j:Int):=by omega
   have i4:(j:Int)<(rows.length:Int):=by omega
   have rX:Hid (i<rows.length / 2):=ag;replace y1:(wr.setCell ⟨gI,i,none⟩ (.slice qB l'[j].2.1.length qC)).drew.frozen? ⟨gI,j,none⟩=false:=y1;replace y2:(wr.setCell ⟨gI,i,none⟩ (.slice qB l'[j].2.1.length qC)).drew.cell? ⟨gI,j,none⟩=some u2:=y2;generalize l'[i].2.1.length=ni at *
   generalize l'[j].2.1.length=nj at *
   clear hI Bk hp h0 h6 az kf e1 m1 e7 m7 e8 m8 k5 hj aB aJ aA e2 e3 e4 e5 e6
   go_upto_region 32 with fail
   refine yy1 (S:=λw':World=>w'.cell? ⟨gI,i,none⟩=some (.slice xy ni xz)/\w'.cell? ⟨gI,j,none⟩=some (.slice qB nj qC)) (L:=λk=>k==21 || k==23) (n:=24) (by kernel_rfl) rfl (by kernel_rfl) ?_;refine T4 (i:=0) (m':=1) (some 155) (v:= .slice (some ⟨gI,0,none⟩) rows.length ic) rfl rfl (by kernel_rfl) (by kernel_rfl) (by kernel_rfl) (by kernel_rfl) (λ_ _ _ h=>h) (Or.inl ⟨by rfl,?_⟩) ?_
   ·intro w' aq;go_simp
   simp only [Act.put,PN,PS,PT];refine T4 (i:=1) (m':=3) (some 156) (v:= .int .i64 i) rfl rfl (by kernel_rfl) (by kernel_rfl) (by kernel_rfl) (by kernel_rfl) (λ_ _ _ h=>h) (Or.inl ⟨by rfl,?_⟩) ?_
   ·intro w' aq;go_simp
   simp only [Act.put,PN,PS,PT];refine T4 (i:=2) (m':=7) (some 157) (v:= .slice (some ⟨gI,0,none⟩) rows.length ic) rfl rfl (by kernel_rfl) (by kernel_rfl) (by kernel_rfl) (by kernel_rfl) (λ_ _ _ h=>h) (Or.inl ⟨by rfl,?_⟩) ?_
   ·intro w' aq;go_simp
   simp only [Act.put,PN,PS,PT];refine T4 (i:=3) (m':=15) (some 158) (v:= .slice (some ⟨gI,0,none⟩) rows.length ic) rfl rfl (by kernel_rfl) (by kernel_rfl) (by kernel_rfl) (by kernel_rfl) (λ_ _ _ h=>h) (Or.inl ⟨by rfl,?_⟩) ?_
   ·intro w' aq;go_simp
   simp only [Act.put,PN,PS,PT];refine T4 (i:=4) (m':=31) (some 159) (v:= .int .i64 rows.length) rfl rfl (by kernel_rfl) (by kernel_rfl) (by kernel_rfl) (by kernel_rfl) (λ_ _ _ h=>h) (Or.inl ⟨by rfl,?_⟩) ?_
   ·intro w' aq;go_simp
   simp only [Act.put,PN,PS,PT];refine T4 (i:=5) (m':=63) (some 160) (v:= .int .i64 ((rows.length:Int)-1)) rfl rfl (by kernel_rfl) (by kernel_rfl) (by kernel_rfl) (by kernel_rfl) (λ_ _ _ h=>h) (Or.inl ⟨by rfl,?_⟩) ?_
   ·intro w' aq;go_simp
   simp only [Act.put,PN,PS,PT];refine T4 (i:=6) (m':=127) (some 161) (v:= .int .i64 i) rfl rfl (by kernel_rfl) (by kernel_rfl) (by kernel_rfl) (by kernel_rfl) (λ_ _ _ h=>h) (Or.inl ⟨by rfl,?_⟩) ?_
   ·intro w' aq;go_simp
   simp only [Act.put,PN,PS,PT];refine T4 (i:=7) (m':=255) (some 162) (v:= .int .i64 j) rfl rfl (by kernel_rfl) (by kernel_rfl) (by kernel_rfl) (by kernel_rfl) (λ_ _ _ h=>h) (Or.inl ⟨by rfl,?_⟩) ?_
   ·intro w' aq;go_simp
   simp only [Act.put,PN,PS,PT];refine T4 (i:=8) (m':=511) (some 163) (v:= .slice (some ⟨gI,0,none⟩) rows.length ic) rfl rfl (by kernel_rfl) (by kernel_rfl) (by kernel_rfl) (by kernel_rfl) (λ_ _ _ h=>h) (Or.inl ⟨by rfl,?_⟩) ?_
   ·intro w' aq;go_simp
   simp only [Act.put,PN,PS,PT];refine T4 (i:=9) (m':=1023) (some 164) (v:= .slice (some ⟨gI,0,none⟩) rows.length ic) rfl rfl (by kernel_rfl) (by kernel_rfl) (by kernel_rfl) (by kernel_rfl) (λ_ _ _ h=>h) (Or.inl ⟨by rfl,?_⟩) ?_
   ·intro w' aq;go_simp
   simp only [Act.put,PN,PS,PT];refine T4 (i:=10) (m':=2047) (some 165) (v:= .int .i64 rows.length) rfl rfl (by kernel_rfl) (by kernel_rfl) (by kernel_rfl) (by kernel_rfl) (λ_ _ _ h=>h) (Or.inl ⟨by rfl,?_⟩) ?_
   ·intro w' aq;go_simp
   simp only [Act.put,PN,PS,PT];refine T4 (i:=11) (m':=4095) (some 166) (v:= .int .i64 ((rows.length:Int)-1)) rfl rfl (by kernel_rfl) (by kernel_rfl) (by kernel_rfl) (by kernel_rfl) (λ_ _ _ h=>h) (Or.inl ⟨by rfl,?_⟩) ?_
   ·intro w' aq;go_simp
   simp only [Act.put,PN,PS,PT];refine T4 (i:=12) (m':=8191) (some 167) (v:= .int .i64 i) rfl rfl (by kernel_rfl) (by kernel_rfl) (by kernel_rfl) (by kernel_rfl) (λ_ _ _ h=>h) (Or.inl ⟨by rfl,?_⟩) ?_
   ·intro w' aq;go_simp
   simp only [Act.put,PN,PS,PT];refine T4 (i:=13) (m':=16383) (some 168) (v:= .int .i64 j) rfl rfl (by kernel_rfl) (by kernel_rfl) (by kernel_rfl) (by kernel_rfl) (λ_ _ _ h=>h) (Or.inl ⟨by rfl,?_⟩) ?_
   ·intro w' aq;go_simp
   simp only [Act.put,PN,PS,PT];refine T4 (i:=14) (m':=32767) (some 169) (v:= .pointer (some ⟨gI,j,none⟩)) rfl rfl (by kernel_rfl) (by kernel_rfl) (by kernel_rfl) (by kernel_rfl) (λ_ _ _ h=>h) (Or.inl ⟨by rfl,?_⟩) ?_
   ·intro w' aq;go_simp
   simp only [Act.put,PN,PS,PT];refine T4 (i:=16) (m':=98303) (some 171) (v:= .slice (some ⟨gI,0,none⟩) rows.length ic) rfl rfl (by kernel_rfl) (by kernel_rfl) (by kernel_rfl) (by kernel_rfl) (λ_ _ _ h=>h) (Or.inl ⟨by rfl,?_⟩) ?_
   ·intro w' aq;go_simp
   simp only [Act.put,PN,PS,PT];refine T4 (i:=17) (m':=229375) (some 172) (v:= .int .i64 i) rfl rfl (by kernel_rfl) (by kernel_rfl) (by kernel_rfl) (by kernel_rfl) (λ_ _ _ h=>h) (Or.inl ⟨by rfl,?_⟩) ?_
   ·intro w' aq;go_simp
   simp only [Act.put,PN,PS,PT];refine T4 (i:=18) (m':=491519) (some 173) (v:= .pointer (some ⟨gI,i,none⟩)) rfl rfl (by kernel_rfl) (by kernel_rfl) (by kernel_rfl) (by kernel_rfl) (λ_ _ _ h=>h) (Or.inl ⟨by rfl,?_⟩) ?_
   ·intro w' aq;go_simp
   simp only [Act.put,PN,PS,PT];refine Lc (i:=15) (m':=524287) (some 170) (v:= .slice qB nj qC) rfl rfl (by kernel_rfl) (by kernel_rfl) (by kernel_rfl) (by kernel_rfl) (by kernel_rfl) (λ_ _ _ h=>h) (Or.inl ⟨by rfl,?_⟩) aw ?_
   ·intro w' aq;obtain ⟨s0,s1⟩:=aq;go_simp
   simp only [Act.put,PN,PS,PT];refine Lc (i:=19) (m':=1048575) (some 174) (v:= .slice xy ni xz) rfl rfl (by kernel_rfl) (by kernel_rfl) (by kernel_rfl) (by kernel_rfl) (by kernel_rfl) (λ_ _ _ h=>h) (Or.inl ⟨by rfl,?_⟩) aw ?_
   ·intro w' aq;obtain ⟨s0,s1⟩:=aq;go_simp
   simp only [Act.put,PN,PS,PT];refine T4 (i:=20) (m':=2097151) (some 175) (v:= .pointer (some ⟨gI,i,none⟩)) rfl rfl (by kernel_rfl) (by kernel_rfl) (by kernel_rfl) (by kernel_rfl) (λ_ _ _ h=>h) (Or.inl ⟨by rfl,?_⟩) ?_
   ·intro w' aq;go_simp
   simp only [Act.put,PN,PS,PT];refine Nf (i:=21) (m':=4194303) (by kernel_rfl) rfl (by kernel_rfl) λK hK=> ?_;obtain ⟨s0,s1⟩:=aw;go_simp;refine hK.out _ _ (λh=>by cases h) ?_;clear hK K;refine Nf (i:=22) (m':=8388607) (by kernel_rfl) rfl (by kernel_rfl) λK hK=> ?_;go_simp;refine hK.out _ _ (λ_ h=>h) ?_;clear hK K;refine Nf (i:=23) (m':=16777215) (by kernel_rfl) rfl (by kernel_rfl) λK hK=> ?_;go_simp;refine hK.out _ _ (λh=>by cases h) ?_;clear hK K;refine yx1 (by kernel_rfl) ?_ _;obtain ⟨U,hU⟩:∃U,U=((wr.setCell ⟨gI,i,none⟩ (.slice qB nj qC)).setCell ⟨gI,j,none⟩ (.slice xy ni xz)).drew:=⟨_,rfl⟩;obtain ⟨l2,cj⟩:=bu.out U hU;have vO:Hid (l2.Perm l/\Irs Wf.heap.size l2 (.slice (some ⟨gI,0,none⟩) rows.length ic) U/\IE 0 Wf.heap.size Wb U/\IE w6.heap.size Wb.heap.size Wb U/\Wb.heap.size<=U.heap.size/\Below w.heap.size w U):=cj;rw [<-hU];clear cj hU bu y0 y1 y2 s0 s1;go_wp2;exact ⟨⟨i+1,l2,by have:=rX.out;omega,by go_num,vO.out⟩,by simp [intOf];have:=rX.out;omega⟩
  have sD:¬(i:Int)<((rows.length / 2:Nat):Int):=by omega
  obtain ⟨We,bh5⟩:∃x,x=wr:=⟨_,rfl⟩;subst bh5;have ei:Hid ((l'.map (·.2.1)).length=rows.length/\((l'.map (·.2.1)).map Q6).sum<=10000/\l'.length=rows.length):=by
   obtain ⟨hp,_⟩:=qA.out;have hr:=iw.out;have h1:=Gv.out;have h2:=((hp.map (·.2.1)).map Q6).sum_nat;rw [h1] at h2;refine ⟨by rw [Qb,hp.length_eq];exact cX.out,by omega,by rw [hp.length_eq];exact cX.out⟩
  have xA:Hid (∀wr,IE Wf.heap.size We.heap.size We wr->We.heap.size<=wr.heap.size->RH wr (λy=>y<wr.heap.size) (.slice ia rows.length ic) (l'.map (·.2.1))):=λwr h hs=>by
   obtain ⟨ad,cap,e,dU⟩:=(qA.out.2.1.on (w':=wr) h).rows;obtain ⟨q1,q3,q2⟩:=RM e;rw [<-q1,<-q3,<-q2] at dU;exact dU
  have GB:Calls Tryz.prog 6 #[.slice fa fs.length fc,.slice ia rows.length ic] We (U7 F fs (l'.map (·.2.1)) (λy=>y<We.heap.size) We):=by
   have hr:=iw.out;have hn:=HN.out;have iP:=ei.out;have:=Zm fs;have qu:=qA.out;exact (LZ HF.out fs _ fa fc _ (λ_ h=>h) ((gq.out We (qu.2.2.1.sub (P6 _) (by omega))).2.1.1.up λy hy=>by omega) (xA.out We (λ_ _ _=>rfl) (P6 _)) (by omega) (by omega) (by omega) (by omega)).mono λr w' h=>Vg (by rw [HF.out];omega) h
  go_upto_region 34 with (first
   | (go_at_call 6;(with_reducible refine Pe GB ?_);rintro e' nz ⟨hb3,e3,o3,x3,xa3,xc3,ya3,yc3,hci3,rfl,han3⟩;have qD:Hid (RR F fs (l'.map (·.2.1)) e3 o3):=hci3;obtain ⟨xB,xC,vP,xD,vQ,vR,xE,tK,vS,xF,vT,rfl⟩:=han3.1.parts;unfold Se;have Bl:Hid (Below We.heap.size We nz/\An F nz (λy=>y<nz.heap.size) (P8 o3) (.agg #[.int .i64 xB,.int .i64 xC,.slice vP xD vQ,.slice vR xE tK,.slice vS xF vT]) xa3 xc3 ya3 yc3):=⟨hb3,han3.on (OZ.refl _ _) (λy hy=>by have:=hb3.size;omega)⟩;clear hb3 hci3 han3))
  clear GB;obtain ⟨jF,eC⟩:∃x,x=(nz.alloc (Obj.cells #[.int .i64 xB,.int .i64 xC,.slice vP xD vQ,.slice vR xE tK,.slice vS xF vT] 30)).alloc (Obj.cells #[.bool (P8 o3).2.1,.slice xa3 (P8 o3).2.2.1.length xc3,.slice ya3 (P8 o3).2.2.2.length yc3] 33):=⟨_,rfl⟩;rw [<-eC];have tL:Hid (Below nz.heap.size nz jF/\jF.heap.size=nz.heap.size+2/\jF.heap[nz.heap.size]? =some (.cells #[.int .i64 xB,.int .i64 xC,.slice vP xD vQ,.slice vR xE tK,.slice vS xF vT] 30 (0,0))/\jF.heap[nz.heap.size+1]? =some (.cells #[.bool (P8 o3).2.1,.slice xa3 (P8 o3).2.2.1.length xc3,.slice ya3 (P8 o3).2.2.2.length yc3] 33 (0,0))):=by
   rw [eC];exact Zu _ _ _
  clear eC;have GC:Calls Tryz.prog 9 #[.slice (some ⟨G,0,none⟩) fs.length C,.slice ia rows.length ic] jF (OF F fs (l'.map (·.2.1)) jF):=by
   have hr:=iw.out;have hn:=HN.out;have iP:=ei.out;have:=Zm fs;have qu:=qA.out;have h1:=Bl.out.1;have h2:=tL.out;have z:=h1.size;have hb:Below We.heap.size We jF:=h1.trans (h2.1.mono z);have hl:=D0.out jF λy a b=>(hb.block y (by omega)).trans (qu.2.2.1 y (TD _) b);exact (zq HF.out fs _ (some ⟨G,0,none⟩) C _ (λ_ h=>h) (hl.fams (CX (gq.out Wb (λ_ _ _=>rfl)).2.1.1)) (xA.out jF (IE.of hb (P6 _)) hb.size) (by omega) (by omega) (by omega)).mono λr w' h=>VG (by rw [HF.out];omega) h
  go_upto_region 35 with (first
   | (go_at_call 9;(with_reducible refine Pe GC ?_);rintro e' nA ⟨hb4,e4,o4,x4,xa4,xc4,ya4,yc4,hci4,rfl,han4,_⟩;obtain ⟨rfl,rfl⟩:=Ns qD.out hci4;obtain ⟨xG,xH,xI,xJ,xK,xL,xM,xN,xO,xP,xQ,rfl⟩:=han4.1.parts;unfold Se;have D3:Hid (Below jF.heap.size jF nA/\An F nA (λy=>y<nA.heap.size) (P8 o3) (.agg #[.int .i64 xG,.int .i64 xH,.slice xI xJ xK,.slice xL xM xN,.slice xO xP xQ]) xa4 xc4 ya4 yc4):=⟨hb4,han4.on (OZ.refl _ _) (λy hy=>by have:=hb4.size;omega)⟩;clear hb4 hci4 han4))
  clear GC;obtain ⟨kh,gM⟩:∃x,x=(nA.alloc (Obj.cells #[.int .i64 xG,.int .i64 xH,.slice xI xJ xK,.slice xL xM xN,.slice xO xP xQ] 30)).alloc (Obj.cells #[.bool (P8 o3).2.1,.slice xa4 (P8 o3).2.2.1.length xc4,.slice ya4 (P8 o3).2.2.2.length yc4] 33):=⟨_,rfl⟩;rw [<-gM];have D4:Hid (Below nA.heap.size nA kh/\kh.heap.size=nA.heap.size+2/\kh.heap[nA.heap.size]? =some (.cells #[.int .i64 xG,.int .i64 xH,.slice xI xJ xK,.slice xL xM xN,.slice xO xP xQ] 30 (0,0))/\kh.heap[nA.heap.size+1]? =some (.cells #[.bool (P8 o3).2.1,.slice xa4 (P8 o3).2.2.1.length xc4,.slice ya4 (P8 o3).2.2.2.length yc4] 33 (0,0))):=by
   rw [gM];exact Zu _ _ _
  clear gM;have qE:Hid (∀wr,Below kh.heap.size kh wr->(Calls Tryz.prog 10 #[.agg #[.int .i64 xG,.int .i64 xH,.slice xI xJ xK,.slice xL xM xN,.slice xO xP xQ],.agg #[.int .i64 xB,.int .i64 xC,.slice vP xD vQ,.slice vR xE tK,.slice vS xF vT]] wr λr w'=>r= .returned (.bool true)/\Below wr.heap.size wr w')/\(Calls Tryz.prog 11 #[.agg #[.bool (P8 o3).2.1,.slice xa4 (P8 o3).2.2.1.length xc4,.slice ya4 (P8 o3).2.2.2.length yc4],.agg #[.bool (P8 o3).2.1,.slice xa3 (P8 o3).2.2.1.length xc3,.slice ya3 (P8 o3).2.2.2.length yc3]] wr λr w'=>r= .returned (.bool true)/\Below wr.heap.size wr w')/\(wr.heap[nz.heap.size]? =some (.cells #[.int .i64 xB,.int .i64 xC,.slice vP xD vQ,.slice vR xE tK,.slice vS xF vT] 30 (0,0))/\wr.heap[nz.heap.size+1]? =some (.cells #[.bool (P8 o3).2.1,.slice xa3 (P8 o3).2.2.1.length xc3,.slice ya3 (P8 o3).2.2.2.length yc3] 33 (0,0)))/\wr.heap[nA.heap.size]? =some (.cells #[.int .i64 xG,.int .i64 xH,.slice xI xJ xK,.slice xL xM xN,.slice xO xP xQ] 30 (0,0))/\wr.heap[nA.heap.size+1]? =some (.cells #[.bool (P8 o3).2.1,.slice xa4 (P8 o3).2.2.1.length xc4,.slice ya4 (P8 o3).2.2.2.length yc4] 33 (0,0))):=λwr hb=>by
   obtain ⟨k1,k2⟩:=Bl.out;obtain ⟨m1,m2,m3,m4⟩:=tL.out;obtain ⟨k3,k4⟩:=D3.out;obtain ⟨n1,n2,n3,n4⟩:=D4.out;have z3:=k3.size;have zb:=hb.size;have lE:∀y,y<kh.heap.size->wr.heap[y]? =kh.heap[y]? :=λy hy=>hb.block y hy;have tM:∀y,y<jF.heap.size->wr.heap[y]? =jF.heap[y]? :=λy hy=>(lE y (by omega)).trans ((n1.block y (by omega)).trans (k3.block y hy));have a1:=k2.on (w':=wr) (S':=λy=>y<wr.heap.size) (λy hy=>(tM y (by omega)).trans (m1.block y hy)) λy hy=>by omega
   have a2:=k4.on (w':=wr) (S':=λy=>y<wr.heap.size) (λy hy=>(lE y (by omega)).trans (n1.block y hy)) λy hy=>by omega
   obtain ⟨c1,c2⟩:=Nk (Dm (by rw [HF.out];omega) qD.out) (λ_ h=>h) a2 a1;exact ⟨c1,c2,⟨(tM _ (by omega)).trans m3,(tM _ (by omega)).trans m4⟩,(lE _ (by omega)).trans n3,(lE _ (by omega)).trans n4⟩
  obtain ⟨CT,_,⟨iy,iz⟩,fI,fJ⟩:=qE.out kh (Pb _ _);obtain ⟨d0,d1,d2,d3,d4⟩:=SR iy;obtain ⟨f0,f1,f2,f3,f4⟩:=SR fI;clear iy fI iz fJ
  go_upto_region 36 with (first
   | (go_at_call 10;(with_reducible refine Pe CT ?_);rintro e' GD ⟨rfl,hbt⟩;have jG:Hid (Below kh.heap.size kh GD):=hbt;clear hbt))
  clear d0 d1 d2 d3 d4 f0 f1 f2 f3 f4 CT;obtain ⟨_,CV,⟨iy,iz⟩,fI,fJ⟩:=qE.out GD jG.out;obtain ⟨d0,d1,d2⟩:=SS iz;obtain ⟨f0,f1,f2⟩:=SS fJ;clear iy fI iz fJ qE
  go_upto_region 40 with (first
   | (go_at_call 11;(with_reducible refine Pe CV ?_);rintro e' Wg ⟨rfl,hbv⟩;have sF:Hid (Below kh.heap.size kh Wg):=jG.out.trans (hbv.mono jG.out.size);clear hbv))
  clear d0 d1 d2 f0 f1 f2 CV jG;have pG:Hid (Irs Wf.heap.size l' (.slice ia rows.length ic) Wg/\IE 0 Wf.heap.size Wb Wg/\IE w6.heap.size Wb.heap.size Wb Wg/\Wb.heap.size<=Wg.heap.size/\Below w.heap.size w Wg/\∀y∈(l'.map (·.2.2)).flatten,Wf.heap.size<=y/\y<Wi.heap.size):=by
   obtain ⟨hp,hI,h0,h6,hs,az⟩:=qA.out;have hn:=HN.out;have k3:=Bl.out.1;have m3:=tL.out.1;have k4:=D3.out.1;have m4:=D4.out.1;have hb1:Below We.heap.size We jF:=k3.trans (m3.mono k3.size);have hb2:Below jF.heap.size jF kh:=k4.trans (m4.mono k4.size);have hb3:Below We.heap.size We kh:=hb1.trans (hb2.mono hb1.size);have hb:Below We.heap.size We Wg:=hb3.trans (sF.out.mono hb3.size);have D5:=hb.size;refine ⟨hI.on λy _ hy=>hb.block y hy,h0.trans (IE.of hb (by omega)),h6.trans (IE.of hb (by omega)),by omega,az.trans (hb.mono az.size),λy hy=> ?_⟩;obtain ⟨x,hx,aj⟩:=Zf.1 hy;exact Gx.out x (hp.mem_iff.1 hx) y aj
  clear Bl tL D3 D4 sF qD xA qA Gx
  go_loopw [34] (λiv wr=>∃i:Nat,i<=rows.length/\iv= .int .i64 i/\Hid (Isp Wf.heap.size l' (.slice ia rows.length ic) Wg i wr)) (λiv _=>rows.length-(intOf iv).toNat)
  case atStart=>exact ⟨0,by omega,by go_num,Isp.start pG.out.1⟩
  obtain ⟨i,hi,rfl,pH⟩:=hrel;by_cases ag:i<rows.length
  ·have iP:=ei.out;have nB:i<l'.length:=by omega
   obtain ⟨gI,xu,su,sy,e1,e2,e3,e4,_,e5,e6⟩:=pG.out.1.at nB;obtain ⟨q1,q3,q2⟩:=RM e1;clear q3;subst q1 q2;obtain ⟨d,lC⟩:=pH.out.rest i nB (P6 _);have mt:wr.heap[gI]? =Wg.heap[gI]? :=pH.out.kx.block gI e4 λq=>by
    obtain ⟨x,hx,hb⟩:=Zf.1 q;exact ((pG.out.1.tw x hx).2.2 gI hb).2 rfl
   have qc:=(Qm mt i).trans e6;have GE:=xx1 d _ _ _ wr lC (pG.out.1.tw _ (Px nB)).2.1 (by
    have h1:=Zv Q6 (l'.map (·.2.1)) l'[i].2.1 (PI.2 ⟨_,Px nB,rfl⟩);omega)
   have em:Hid (∀w',KxB l'[i].2.2 wr w'->Pl w' (λy=>y∈l'[i].2.2) l'[i].1 (l'[i].2.1.map λ_=>SY)->Isp Wf.heap.size l' (.slice (some ⟨gI,0,none⟩) rows.length ic) Wg (i+1) w'):=λw' a b=>pH.out.step pG.out.1 nB a b;rw [e5] at GE;have i1:(0:Int)<=(i:Int):=by omega
   have i2:(i:Int)<(rows.length:Int):=by omega
   have ck7:Hid (l'[i].1= .slice su l'[i].2.1.length sy):=e5;clear iP e1 e2 e3 e4 e5 e6 lC mt pH
   go_wp2_with (first
    | (go_at_call 16;(with_reducible refine Pe GE ?_);rintro e' ws ⟨rfl,qF,hps⟩;have D6:Hid (Isp Wf.heap.size l' (.slice (some ⟨gI,0,none⟩) rows.length ic) Wg (i+1) ws):=em.out ws qF (ck7.out▸hps _ (λb hb=>hb));clear qF hps))
   exact ⟨⟨i+1,ag,by go_num,D6.out⟩,by simp [intOf];omega⟩
  obtain rfl:i=rows.length:=by omega
  obtain ⟨Wh,bz4⟩:∃x,x=wr:=⟨_,rfl⟩;subst bz4;have D7:Hid (RH Wh (λy=>Wf.heap.size<=y/\y<Wi.heap.size) (.slice ia rows.length ic) (l'.map λx=>x.2.1.map λ_=>SY)/\IE 0 Wf.heap.size Wb Wh/\IE w6.heap.size Wb.heap.size Wb Wh/\Wb.heap.size<=Wh.heap.size/\Below w.heap.size w Wh):=by
   obtain ⟨hI,h0,h6,hs,az,dS⟩:=pG.out;have hn:=HN.out;have cu:=gr.out;have iP:=ei.out;have hsp:=pH.out;have hk:=hsp.kx;have qF:=hk.size;have ba4:Isp Wf.heap.size l' (.slice ia rows.length ic) Wg l'.length Wh:=by rw [iP.2.2];exact hsp
   have q:∀y,y<Wb.heap.size->¬(Wf.heap.size<=y/\y<Wi.heap.size)->Wh.heap[y]? =Wg.heap[y]? :=λy hy am=>hk.block y (by omega) λm=>am (dS y m);have dU:=ba4.rows hI (ad:=ia) (cap:=ic) (by rw [iP.2.2]) (S:=λy=>Wf.heap.size<=y/\y<Wi.heap.size) λy hy=>by
    rcases hy with hy | hy
    ·exact ⟨(hI.out.lt y hy).1,Gy.out y hy⟩
    exact dS y hy
   rw [iP.2.2] at dU;exact ⟨dU,λy a b=>(q y (by omega) (by omega)).trans (h0 y a b),λy a b=>(q y (by omega) (by omega)).trans (h6 y a b),by omega,⟨hk.os.trans az.os,hk.tape.trans az.tape,hk.output.trans az.output,by have:=az.size;omega,λy hy=>(q y (by omega) (by omega)).trans (az.block y hy)⟩⟩
  clear pH pG;have pI:Hid (Laid W0.heap.size fs G C gb es Wh):=by
   have hn:=HN.out;exact D0.out Wh (D7.out.2.1.sub (TD _) (P6 _))
  have GF:Hid (∀i (h:i<fs.length),fs[i].1.length<=10000/\fs[i].2.length<=10000):=λi hi=>by
   have h1:=Zv RZ fs _ (Px hi);have h2:RZ fs[i]=fs[i].1.length+fs[i].2.length:=rfl;have hr:=iw.out;omega
  have aY:fs.length<=10000:=by have:=iw.out;omega
  have ar3:fs.length<=C:=by have:=X' pI.out.out;omega
  go_upto_region 44 with fail
  go_loopw [35] (λiv wr=>∃i:Nat,i<=fs.length/\iv= .int .i64 i/\Hid (Fsp fs es Wh i 0 0 wr)) (λiv _=>fs.length-(intOf iv).toNat)
  case atStart=>exact ⟨0,by omega,by go_num,Fsp.start pI.out⟩
  obtain ⟨i,hi,rfl,vU⟩:=hrel;by_cases ag:i<fs.length
  ·have jH:i<es.length:=by rw [pI.out.len];exact ag
   have GG:Hid (∀wr,KxB (Sj es) Wh wr->wr.cell? ⟨G,i*2,none⟩=some (.slice (some ⟨es[i].1,0,none⟩) fs[i].1.length es[i].2.1)/\wr.cell? ⟨G,i*2+1,none⟩=some (.slice (some ⟨es[i].2.2.1,0,none⟩) fs[i].2.length es[i].2.2.2)):=λwr hk=>by
    have hg:=pI.out.gcell hk;have ha:=pI.out.at ag jH;exact ⟨(Qm hg _).trans ha.c0,(Qm hg _).trans ha.c1⟩
   obtain ⟨z1,z2⟩:=GF.out i ag;have fU:Hid (∀p q wr,Fsp fs es Wh i p q wr->p<fs[i].1.length->Fsp fs es Wh i (p+1) q (wr.setCell ⟨es[i].1,p,none⟩ (.string ⟨#[115,112,111,105,108,116]⟩))/\(∃u,wr.cell? ⟨es[i].1,p,none⟩=some u)/\wr.frozen? ⟨es[i].1,p,none⟩=false):=λp q wr h hp=>by
    obtain ⟨cur,b1,b2⟩:=h.bc i jH ag;exact ⟨h.putc pI.out.fl.ap jH ag hp,⟨_,P0 b1 (Rm (by omega))⟩,Pp b1⟩
   have D9:Hid (∀p q wr,Fsp fs es Wh i p q wr->q<fs[i].2.length->Fsp fs es Wh i p (q+1) (wr.setCell ⟨es[i].2.2.1,q,none⟩ (.int .i64 (-9)))/\(∃u,wr.cell? ⟨es[i].2.2.1,q,none⟩=some u)/\wr.frozen? ⟨es[i].2.2.1,q,none⟩=false):=λp q wr h hp=>by
    obtain ⟨cur,b1,b2⟩:=h.bf i jH ag;exact ⟨h.putf pI.out.fl.ap jH ag hp,⟨_,P0 b1 (Rm (by omega))⟩,Pp b1⟩
   have vV:Hid (fs[i].1.length<=es[i].2.1/\fs[i].2.length<=es[i].2.2.2):=by
    have ha:=pI.out.at ag jH;have:=ha.rc;have:=ha.rf;exact ⟨by omega,by omega⟩
   have em:Hid (∀wr,Fsp fs es Wh i fs[i].1.length fs[i].2.length wr->Fsp fs es Wh (i+1) 0 0 wr):=λwr h=>h.next ag (P6 _) (P6 _)
   have i1:(0:Int)<=(i:Int):=by omega
   have i2:(i:Int)<(fs.length:Int):=by omega
   obtain ⟨ai4,ae2⟩:=vV.out;generalize fs[i].1.length=nn at *
   generalize fs[i].2.length=mm at *
   generalize es[i].1=cb at *
   generalize es[i].2.1=cd at *
   generalize es[i].2.2.1=fb at *
   generalize es[i].2.2.2=fd at *
   go_upto_region 47 with fail
   go_loopw [36] (λkv wr=>∃p:Nat,p<=nn/\kv= .int .i64 p/\Hid (Fsp fs es Wh i p 0 wr)) (λkv _=>nn-(intOf kv).toNat)
   case atStart=>exact ⟨0,by omega,by go_num,vU.out⟩
   obtain ⟨p,hp,rfl,Bm⟩:=hrel;have gc:=(GG.out wr Bm.out.kx).1;by_cases bo:p<nn
   ·obtain ⟨pJ,⟨u,hu⟩,GH⟩:=fU.out p 0 wr Bm.out bo;obtain ⟨U,hU⟩:∃U,U=wr.setCell ⟨cb,p,none⟩ (.string ⟨#[115,112,111,105,108,116]⟩):=⟨_,rfl⟩;rw [<-hU] at pJ;have Da:Hid (Fsp fs es Wh i (p+1) 0 U):=pJ;have j1:(0:Int)<=(p:Int):=by omega
    have j2:(p:Int)<(nn:Int):=by omega
    clear pJ Bm;go_wp2;rw [<-hU];exact ⟨⟨p+1,bo,by go_num,Da.out⟩,by simp [intOf];omega⟩
   obtain rfl:p=nn:=by omega
   go_upto_region 51 with fail
   go_loopw [37] (λkv wr=>∃q:Nat,q<=mm/\kv= .int .i64 q/\Hid (Fsp fs es Wh i p q wr)) (λkv _=>mm-(intOf kv).toNat)
   case atStart=>exact ⟨0,by omega,by go_num,Bm.out⟩
   obtain ⟨q,hq,rfl,xR⟩:=hrel;have gf:=(GG.out wr xR.out.kx).2;by_cases dZ:q<mm
   ·obtain ⟨pJ,⟨u,hu⟩,GH⟩:=D9.out p q wr xR.out dZ;obtain ⟨U,hU⟩:∃U,U=wr.setCell ⟨fb,q,none⟩ (.int .i64 (-9)):=⟨_,rfl⟩;rw [<-hU] at pJ;have Da:Hid (Fsp fs es Wh i p (q+1) U):=pJ;have j1:(0:Int)<=(q:Int):=by omega
    have j2:(q:Int)<(mm:Int):=by omega
    clear pJ xR;go_wp2;rw [<-hU];exact ⟨⟨q+1,dZ,by go_num,Da.out⟩,by simp [intOf];omega⟩
   obtain rfl:q=mm:=by omega
   have D6:Hid (Fsp fs es Wh (i+1) 0 0 wr):=em.out wr xR.out;clear xR;go_wp2;exact ⟨⟨i+1,ag,by go_num,D6.out⟩,by simp [intOf];omega⟩
  obtain rfl:i=fs.length:=by omega
  obtain ⟨Wk,cg5⟩:∃x,x=wr:=⟨_,rfl⟩;subst cg5;have vW:Hid (PH Wk (λy=>W0.heap.size<=y/\y<Wf.heap.size) (.slice (some ⟨G,0,none⟩) fs.length C) (fs.map Sh)/\RH Wk (λy=>Wf.heap.size<=y/\y<Wi.heap.size) (.slice ia rows.length ic) (l'.map λx=>x.2.1.map λ_=>SY)/\IE 0 W0.heap.size Wb Wk/\IE Wa.heap.size Wb.heap.size Wb Wk/\Wb.heap.size<=Wk.heap.size/\Below w.heap.size w Wk):=by
   obtain ⟨dU,h0,h6,hs,az⟩:=D7.out;have hn:=HN.out;have cu:=gr.out;have hk:=vU.out.kx;have qF:=hk.size;have dS:∀y,(y=G\/y∈Sj es)->W0.heap.size<=y/\y<Wf.heap.size:=ax6.out;have q:∀y,y<Wb.heap.size->¬(W0.heap.size<=y/\y<Wf.heap.size)->Wk.heap[y]? =Wh.heap[y]? :=λy hy am=>hk.block y (by omega) λm=>am (dS y (.inr m));exact ⟨vU.out.fams pI.out dS,dU.on λy hy=>q y (by omega) (by omega),λy a b=>(q y (by omega) (by omega)).trans (h0 y a (by omega)),λy a b=>(q y (by omega) (by omega)).trans (h6 y (by omega) b),by omega,⟨hk.os.trans az.os,hk.tape.trans az.tape,hk.output.trans az.output,by have:=az.size;omega,λy hy=>(q y (by omega) (by omega)).trans (az.block y hy)⟩⟩
  clear vU D7 pI GF;obtain ⟨CT,_,⟨iy,iz⟩,fI,fJ⟩:=bx.out Wk vW.out.2.2.1 vW.out.2.2.2.1 vW.out.2.2.2.2.1;obtain ⟨d0,d1,d2,d3,d4⟩:=SR iy;obtain ⟨f0,f1,f2,f3,f4⟩:=SR fI;clear iy fI iz fJ
  go_upto_region 55 with (first
   | (go_at_call 10;(with_reducible refine Pe CT ?_);rintro e' Db ⟨rfl,hbt⟩;have jG:Hid (Below Wk.heap.size Wk Db):=hbt;clear hbt))
  clear d0 d1 d2 d3 d4 f0 f1 f2 f3 f4 CT;have Dc:Hid (∀wr,Below Wk.heap.size Wk wr->IE 0 W0.heap.size Wb wr/\IE Wa.heap.size Wb.heap.size Wb wr/\Wb.heap.size<=wr.heap.size):=λwr hb=>by
   obtain ⟨_,_,h0,h6,hs,_⟩:=vW.out;have hn:=HN.out;have:=hb.size;exact ⟨h0.trans (IE.of hb (by omega)),h6.trans (IE.of hb (by omega)),by omega⟩
  obtain ⟨k0,k1,k2⟩:=Dc.out Db jG.out;obtain ⟨_,CV,⟨iy,iz⟩,fI,fJ⟩:=bx.out Db k0 k1 k2;obtain ⟨d0,d1,d2⟩:=SS iz;obtain ⟨f0,f1,f2⟩:=SS fJ;clear iy fI iz fJ k0 k1 k2
  go_upto_region 56 with (first
   | (go_at_call 11;(with_reducible refine Pe CV ?_);rintro e' vX ⟨rfl,hbv⟩;have sF:Hid (Below Wk.heap.size Wk vX):=jG.out.trans (hbv.mono jG.out.size);clear hbv))
  clear d0 d1 d2 f0 f1 f2 CV jG;obtain ⟨k0,k1,k2⟩:=Dc.out vX sF.out;obtain ⟨xS,xT,fI,fJ⟩:=C'.out vX k1;have CO:Calls Tryz.prog 15 #[.agg #[.int .i64 sq,.int .i64 sr,.slice dH ss dI,.slice fG jD fq,.slice fH jE eB],.agg #[.bool (P8 o0).2.1,.slice xa2 (P8 o0).2.2.1.length xc2,.slice ya2 (P8 o0).2.2.2.length yc2]] vX λr w'=>r= .returned (.bool true)/\Ows Wa.heap.size w7.heap.size vX w':=K6 xS xT pD.out (by have:=HN.out;omega);obtain ⟨d0,d1,d2,d3,d4⟩:=SR fI;obtain ⟨f0,f1,f2⟩:=SS fJ;clear fI fJ xS xT k0 k1 k2
  go_upto_region 57 with (first
   | (go_at_call 15;(with_reducible refine Pe CO ?_);rintro e' Wl ⟨rfl,how⟩;have lB:Hid (Ows Wa.heap.size w7.heap.size vX Wl):=how;clear how))
  clear CO d0 d1 d2 d3 d4 f0 f1 f2;have Dd:Hid (PH Wl (λy=>W0.heap.size<=y/\y<Wf.heap.size) (.slice (some ⟨G,0,none⟩) fs.length C) (fs.map Sh)/\RH Wl (λy=>Wf.heap.size<=y/\y<Wi.heap.size) (.slice ia rows.length ic) (l'.map λx=>x.2.1.map λ_=>SY)/\Wb.heap.size<=Wl.heap.size/\Below w.heap.size w Wl):=by
   obtain ⟨hF,hR,h0,h6,hs,az⟩:=vW.out;have hn:=HN.out;have cu:=gr.out;have hv:=sF.out;have ho:=lB.out;have ad6:=hv.size;have Bn:=ho.size;have q:∀y,y<Wb.heap.size->¬(Wa.heap.size<=y/\y<w7.heap.size)->Wl.heap[y]? =Wk.heap[y]? :=λy hy am=>(ho.block y (by omega) am).trans (hv.block y (by omega));exact ⟨hF.on λy hy=>q y (by omega) (by omega),hR.on λy hy=>q y (by omega) (by omega),by omega,⟨ho.os.trans (hv.os.trans az.os),ho.tape.trans (hv.tape.trans az.tape),ho.output.trans (hv.output.trans az.output),by have:=az.size;omega,λy hy=>(q y (by omega) (by omega)).trans (az.block y hy)⟩⟩
  clear vW Dc sF lB dl bx tH C';have xi:Hid (((l'.map λx=>x.2.1.map λ_=>SY).map Q6).sum<=10000/\(l'.map λx=>x.2.1.map λ_=>SY).length=rows.length/\(fs.map Sh).length=fs.length/\((fs.map Sh).map λf=>f.1.length).sum<=10000):=by
   have h1:=mq0 l';have h2:=ei.out;have h3:=XL fs;have h4:=Zm fs;have h5:=iw.out;exact ⟨by omega,by rw [Qb];exact h2.2.2,Qb _,by omega⟩
  have GI:Calls Tryz.prog 6 #[.slice (some ⟨G,0,none⟩) fs.length C,.slice ia rows.length ic] Wl (U7 F (fs.map Sh) (l'.map λx=>x.2.1.map λ_=>SY) (λy=>y<Wl.heap.size) Wl):=by
   have hn:=HN.out;obtain ⟨hF,hR,hs,_⟩:=Dd.out;obtain ⟨s1,s2,s3,s4⟩:=xi.out;have hr:=iw.out;have:=LZ HF.out (fs.map Sh) (l'.map λx=>x.2.1.map λ_=>SY) (some ⟨G,0,none⟩) C (.slice ia rows.length ic) (w:=Wl) (S:=λy=>y<Wl.heap.size) (λ_ h=>h) (by rw [s3];exact hF.up λy hy=>by omega) (hR.up λy hy=>by omega) (by omega) s4 (by omega) (by omega);rw [s3] at this;exact this.mono λr w' h=>Vg (by rw [HF.out];omega) h
  go_upto_region 58 with (first
   | (go_at_call 6;(with_reducible refine Pe GI ?_);rintro e' nC ⟨hb5,e5,o5,x5,xa5,xc5,ya5,yc5,hci5,rfl,han5⟩;have GJ:Hid (RR F (fs.map Sh) (l'.map λx=>x.2.1.map λ_=>SY) e5 o5):=hci5;obtain ⟨xU,xV,xW,xX,xY,xZ,y7,y8,y9,ya,yc,rfl⟩:=han5.1.parts;unfold Se;have De:Hid (Below Wl.heap.size Wl nC/\An F nC (λy=>y<nC.heap.size) (P8 o5) (.agg #[.int .i64 xU,.int .i64 xV,.slice xW xX xY,.slice xZ y7 y8,.slice y9 ya yc]) xa5 xc5 ya5 yc5):=⟨hb5,han5.on (OZ.refl _ _) (λy hy=>by have:=hb5.size;omega)⟩;clear hb5 hci5 han5))
  clear GI;obtain ⟨jI,cQ⟩:∃x,x=(nC.alloc (Obj.cells #[.int .i64 xU,.int .i64 xV,.slice xW xX xY,.slice xZ y7 y8,.slice y9 ya yc] 30)).alloc (Obj.cells #[.bool (P8 o5).2.1,.slice xa5 (P8 o5).2.2.1.length xc5,.slice ya5 (P8 o5).2.2.2.length yc5] 33):=⟨_,rfl⟩;rw [<-cQ];have Df:Hid (Below nC.heap.size nC jI/\jI.heap.size=nC.heap.size+2/\jI.heap[nC.heap.size]? =some (.cells #[.int .i64 xU,.int .i64 xV,.slice xW xX xY,.slice xZ y7 y8,.slice y9 ya yc] 30 (0,0))/\jI.heap[nC.heap.size+1]? =some (.cells #[.bool (P8 o5).2.1,.slice xa5 (P8 o5).2.2.1.length xc5,.slice ya5 (P8 o5).2.2.2.length yc5] 33 (0,0))):=by
   rw [cQ];exact Zu _ _ _
  clear cQ;have GK:Calls Tryz.prog 9 #[.slice (some ⟨G,0,none⟩) fs.length C,.slice ia rows.length ic] jI (OF F (fs.map Sh) (l'.map λx=>x.2.1.map λ_=>SY) jI):=by
   have hn:=HN.out;obtain ⟨hF,hR,hs,_⟩:=Dd.out;obtain ⟨s1,s2,s3,s4⟩:=xi.out;have hr:=iw.out;have h1:=De.out.1;have h2:=Df.out;have z:=h1.size;have hb:Below Wl.heap.size Wl jI:=h1.trans (h2.1.mono z);have:=zq HF.out (fs.map Sh) (l'.map λx=>x.2.1.map λ_=>SY) (some ⟨G,0,none⟩) C (.slice ia rows.length ic) (w:=jI) (S:=λy=>y<jI.heap.size) (λ_ h=>h) (by rw [s3];exact (hF.on λy hy=>hb.block y (by omega)).up λy hy=>by omega) ((hR.on λy hy=>hb.block y (by omega)).up λy hy=>by omega) (by omega) s4 (by omega);rw [s3] at this;exact this.mono λr w' h=>VG (by rw [HF.out];omega) h
  go_upto_region 59 with (first
   | (go_at_call 9;(with_reducible refine Pe GK ?_);rintro e' nD ⟨hb6,e6,o6,x6,xa6,xc6,ya6,yc6,hci6,rfl,han6,_⟩;obtain ⟨rfl,rfl⟩:=Ns GJ.out hci6;obtain ⟨yd,ye,yf,yh,yi,yj,yk,yo,yp,yq,yr,rfl⟩:=han6.1.parts;unfold Se;have GL:Hid (Below jI.heap.size jI nD/\An F nD (λy=>y<nD.heap.size) (P8 o5) (.agg #[.int .i64 yd,.int .i64 ye,.slice yf yh yi,.slice yj yk yo,.slice yp yq yr]) xa6 xc6 ya6 yc6):=⟨hb6,han6.on (OZ.refl _ _) (λy hy=>by have:=hb6.size;omega)⟩;clear hb6 hci6 han6))
  clear GK;obtain ⟨je,pK⟩:∃x,x=(nD.alloc (Obj.cells #[.int .i64 yd,.int .i64 ye,.slice yf yh yi,.slice yj yk yo,.slice yp yq yr] 30)).alloc (Obj.cells #[.bool (P8 o5).2.1,.slice xa6 (P8 o5).2.2.1.length xc6,.slice ya6 (P8 o5).2.2.2.length yc6] 33):=⟨_,rfl⟩;rw [<-pK];have GM:Hid (Below nD.heap.size nD je/\je.heap.size=nD.heap.size+2/\je.heap[nD.heap.size]? =some (.cells #[.int .i64 yd,.int .i64 ye,.slice yf yh yi,.slice yj yk yo,.slice yp yq yr] 30 (0,0))/\je.heap[nD.heap.size+1]? =some (.cells #[.bool (P8 o5).2.1,.slice xa6 (P8 o5).2.2.1.length xc6,.slice ya6 (P8 o5).2.2.2.length yc6] 33 (0,0))):=by
   rw [pK];exact Zu _ _ _
  clear pK;have qE:Hid (∀wr,Below je.heap.size je wr->(Calls Tryz.prog 10 #[.agg #[.int .i64 yd,.int .i64 ye,.slice yf yh yi,.slice yj yk yo,.slice yp yq yr],.agg #[.int .i64 xU,.int .i64 xV,.slice xW xX xY,.slice xZ y7 y8,.slice y9 ya yc]] wr λr w'=>r= .returned (.bool true)/\Below wr.heap.size wr w')/\(Calls Tryz.prog 11 #[.agg #[.bool (P8 o5).2.1,.slice xa6 (P8 o5).2.2.1.length xc6,.slice ya6 (P8 o5).2.2.2.length yc6],.agg #[.bool (P8 o5).2.1,.slice xa5 (P8 o5).2.2.1.length xc5,.slice ya5 (P8 o5).2.2.2.length yc5]] wr λr w'=>r= .returned (.bool true)/\Below wr.heap.size wr w')/\(wr.heap[nC.heap.size]? =some (.cells #[.int .i64 xU,.int .i64 xV,.slice xW xX xY,.slice xZ y7 y8,.slice y9 ya yc] 30 (0,0))/\wr.heap[nC.heap.size+1]? =some (.cells #[.bool (P8 o5).2.1,.slice xa5 (P8 o5).2.2.1.length xc5,.slice ya5 (P8 o5).2.2.2.length yc5] 33 (0,0)))/\wr.heap[nD.heap.size]? =some (.cells #[.int .i64 yd,.int .i64 ye,.slice yf yh yi,.slice yj yk yo,.slice yp yq yr] 30 (0,0))/\wr.heap[nD.heap.size+1]? =some (.cells #[.bool (P8 o5).2.1,.slice xa6 (P8 o5).2.2.1.length xc6,.slice ya6 (P8 o5).2.2.2.length yc6] 33 (0,0))):=λwr hb=>by
   obtain ⟨k1,k2⟩:=De.out;obtain ⟨m1,m2,m3,m4⟩:=Df.out;obtain ⟨k3,k4⟩:=GL.out;obtain ⟨n1,n2,n3,n4⟩:=GM.out;have z3:=k3.size;have zb:=hb.size;have lE:∀y,y<je.heap.size->wr.heap[y]? =je.heap[y]? :=λy hy=>hb.block y hy;have tM:∀y,y<jI.heap.size->wr.heap[y]? =jI.heap[y]? :=λy hy=>(lE y (by omega)).trans ((n1.block y (by omega)).trans (k3.block y hy));have a1:=k2.on (w':=wr) (S':=λy=>y<wr.heap.size) (λy hy=>(tM y (by omega)).trans (m1.block y hy)) λy hy=>by omega
   have a2:=k4.on (w':=wr) (S':=λy=>y<wr.heap.size) (λy hy=>(lE y (by omega)).trans (n1.block y hy)) λy hy=>by omega
   obtain ⟨c1,c2⟩:=Nk (Dm (by rw [HF.out];omega) GJ.out) (λ_ h=>h) a2 a1;exact ⟨c1,c2,⟨(tM _ (by omega)).trans m3,(tM _ (by omega)).trans m4⟩,(lE _ (by omega)).trans n3,(lE _ (by omega)).trans n4⟩
  obtain ⟨CT,_,⟨iy,iz⟩,fI,fJ⟩:=qE.out je (Pb _ _);obtain ⟨d0,d1,d2,d3,d4⟩:=SR iy;obtain ⟨f0,f1,f2,f3,f4⟩:=SR fI;clear iy fI iz fJ
  go_upto_region 60 with (first
   | (go_at_call 10;(with_reducible refine Pe CT ?_);rintro e' GN ⟨rfl,hbt⟩;have jG:Hid (Below je.heap.size je GN):=hbt;clear hbt))
  clear d0 d1 d2 d3 d4 f0 f1 f2 f3 f4 CT;obtain ⟨_,CV,⟨iy,iz⟩,fI,fJ⟩:=qE.out GN jG.out;obtain ⟨d0,d1,d2⟩:=SS iz;obtain ⟨f0,f1,f2⟩:=SS fJ;clear iy fI iz fJ qE;have bP:Hid (∀wr,Below je.heap.size je wr->Below w.heap.size w wr):=λwr hb=>by
   have h0:=Dd.out.2.2.2;have k5:=De.out.1;have m5:=Df.out.1;have k6:=GL.out.1;have m6:=GM.out.1;have hb1:Below Wl.heap.size Wl jI:=k5.trans (m5.mono k5.size);have hb2:Below jI.heap.size jI je:=k6.trans (m6.mono k6.size);have hb3:Below Wl.heap.size Wl je:=hb1.trans (hb2.mono hb1.size);have hb4:Below Wl.heap.size Wl wr:=hb3.trans (hb.mono hb3.size);exact h0.trans (hb4.mono h0.size)
  go_upto_region 61 with (first
   | (go_at_call 11;(with_reducible refine Pe CV ?_);rintro e' Wz ⟨rfl,hbv⟩;have sF:Hid (Below je.heap.size je Wz):=jG.out.trans (hbv.mono jG.out.size);clear hbv))
  clear d0 d1 d2 f0 f1 f2 CV jG;go_wp2;go_ret;exact ⟨bP.out Wz sF.out,rfl⟩
