import Derived.Test.YtpdmkhnonbbhnaaGreatMlx
import Derived.Laws.CopyOwn
namespace Go.Proofs.YtpdmkhnonbbhnaaGreat
open Go.RowKit
set_option maxHeartbeats 16000000
set_option maxRecDepth 10000
section
variable {l:List Int}{n:Int}{k e B:Nat}{w:World}{v:Value}
def QI (n:Int):List Int->List Int
 | []=> [n]
 | a::r=>if a<n then a::QI n r else if a=n then a::r else n::a::r
theorem Kl {n:Int}:∀{a b:List Int},(∀x∈a,x<n)->QI n (a++b)=a++QI n b
 | [],_,_=>rfl
 | x::a,b,h=>by
  have h1:=h x (by simp);rw [TY,QI,Pc h1,Kl λy hy=>h y (by simp [hy])]
  rfl
theorem ux1 (hk:k<l.length)(h:∀x∈l.take k,x<n)(e:l[k]=n):QI n l=l:=by
 have h1:l=l.take k++l[k]::l.drop (k+1):=by rw [<-Ur hk,Ug]
 have h2:QI n l=l.take k++QI n (l[k]::l.drop (k+1)):=by
  conv=>lhs;rw [h1]
  exact Kl h
 rw [h2,QI,P7 (by omega),Pc e,<-h1]
theorem Lq (h:∀x∈l.take k,x<n)(e:∀h:k<l.length,n<l[k]):QI n l=l.take k++n::l.drop k:=by
 have h1:l=l.take k++l.drop k:=(Ug _ _).symm;have h2:QI n l=l.take k++QI n (l.drop k):=by
  conv=>lhs;rw [h1]
  exact Kl h
 rw [h2]
 congr 1
 rcases Sk k l.length with hl | hl
 ·have:=e hl;rw [Ur hl,QI,P7 (by omega),P7 (by omega)]
 rw [Yb hl]
 rfl
def Uj (c:Nat)(l:List Int)(r:Rw):List Int:=match r.2[c]? with
 | none=>l
 | some p=>if p.kind=3 then QI p.num l else l
def Qu (c:Nat)(R:List Rw):List Int:=R.foldl (Uj c) []
theorem uy1 {c:Nat}{R:List Rw}{i:Nat}(hi:i<R.length):Qu c (R.take (i+1))=Uj c (Qu c (R.take i)) R[i]:=by
 unfold Qu;rw [S1,PR hi,Nn]
 rfl
theorem LE (n:Int):∀l,(QI n l).length<=l.length+1
 | []=>by simp [QI]
 | a::r=>by
  have:=LE n r;unfold QI;split
  ·simp;omega
  split<;>simp
theorem uz1 (c:Nat)(l:List Int)(r:Rw):(Uj c l r).length<=l.length+1:=by
 unfold Uj;split
 ·omega
 split
 ·exact LE _ _
 omega
theorem yX (c:Nat):∀(R:List Rw) (l:List Int),(R.foldl (Uj c) l).length<=l.length+R.length
 | [],l=>by simp
 | r::R,l=>by
  have:=yX c R (Uj c l r);have:=uz1 c l r;rw [YD,Rj];omega
def SQ:Elt Int where
 k:=1
 C _ _ cs x:=cs=[.int .i64 x]
 len:=by rintro _ _ _ _ rfl;rfl
 one:=by rintro _ _ _ _ rfl u hu;rw [Ra.1 hu];rfl
 on:=λ_ _ h=>h
theorem Tryz.ty26i:Ty 26 3 SQ.k 8:=Tryz.ty26
def No (_:Nat):Prop:=False
theorem Own.ints (h:Own SQ e B w No v l):∃ad cap,v= .slice ad l.length cap/\w.ownsRow B e 1 (.slice ad l.length cap) l.length (l.map λx=>Value.int .i64 x):=by
 obtain ⟨bX,h1,h2⟩:=h.row;obtain ⟨ad,cap,rfl⟩:=h.len;refine ⟨ad,cap,rfl,?_⟩;have:bX.flatten=l.map λx=>Value.int .i64 x:=by
  refine Lt λj=> ?_;rcases Sk j bX.length with hj | hj
  ·have hf:=Ok bX h1.lens j 0 hj (by decide);have hc:bX[j]=[Value.int .i64 (l[j]'(by rw [<-h1.1];exact hj))]:=h1.2 j hj _;have e1:j*SQ.k+0=j:=by show j*1+0=j;omega
   rw [e1,hc] at hf;have aJ:j<l.length:=by have:=h1.1;omega
   refine hf.trans ?_;rw [X8,PR (l:=l) aJ]
   rfl
  have e1:bX.flatten.length=bX.length:=by rw [KR _ h1.lens];show _*1=_;omega
  rw [Z3 (by omega),Z3 (by rw [Qb,<-h1.1];exact hj)]
 rw [<-this];exact h2
theorem Own.ofInts (h:w.ownsRow B e 1 v l.length (l.map λx=>Value.int .i64 x)):Own SQ e B w No v l:=by
 refine ⟨⟨l.map λx=> [Value.int .i64 x],⟨by simp,λi a b=>by rw [R7];rfl⟩,?_⟩,λ_ h=>h.elim⟩;have:(l.map λx=> [Value.int .i64 x]).flatten=l.map λx=>Value.int .i64 x:=by
  clear h
  induction l with
  | nil=>rfl
  | cons a l ih=>rw [Re,U3,ih];rfl
 rw [this];exact h
end
section
variable {al:Array Oper}{o:Oper}{a:Act}{Q:Exit->Act->World->Prop}{B k:Nat}{w:World}{l:List Int}{n:Int}
theorem LF {rest:List Oper}{w2:World}(ez:o.guard=none)(s x:Operand)
  (ho:o.op= .call {callee:= .builtin .append,args:= #[s,x],argTypes:= #[26,26]}) {v:Value}{l:List Int}{n:Int}(hs:a.eval s=v) (hown:w2.ownsRow B 3 1 v l.length (l.map λx=>Value.int .i64 x)) (H:Nat) (hx:a.eval x= .slice (some ⟨H,0,none⟩) 1 1) (hH:w2.heap.size=H) (hl:l.length+1<=10000000) (hB:B<=w2.heap.size)
  (h:∀g cap cur w',Hid (w'.heap[g]? =some (.cells (List.toArray cur) 3 (0,0)))->Hid (B<=g/\cur.length=cap/\l.length+1<=cap/\cap<=maxLen/\cur.take (l.length+1)=(l++[n]).map λx=>Value.int .i64 x)->Hid (Below B w2 w'/\(∀y,y<w2.heap.size->v.ownBlock≠some y->w'.heap[y]? =w2.heap[y]?)/\(v.ownBlock=some g\/w2.heap.size<=g))->wpList Tryz.prog al Q rest (a.put o.dst (.slice (some ⟨g,0,none⟩) (l.length+1) cap)) w'):wpList Tryz.prog al Q (o::rest) a (w2.alloc (.cells #[.int .i64 n] 3)):=by
 subst hH;have hb2:Below w2.heap.size w2 (w2.alloc (.cells #[.int .i64 n] 3)):=(Pb _ _).alloc (P6 _) _;refine NT (E:=SQ) (Z:=λy=>y=w2.heap.size) (S:=No) (m:=[n]) (B:=B) Tryz.ty26i ez s x ho hs (Own.ofInts (hown.alloc _)) hx (PC.new (cs:=[.int .i64 n]) rfl (PF _ _) (P6 _)) hl (PZ hB hb2.size) (λ_ h=>h.elim) ?_;intro v' w' O K1 K2 G;obtain ⟨ad,cap,rfl,hr⟩:=O.ints;rcases id hr.2 with ⟨_,h0⟩ | ⟨g,cp,cur,e,h1,h2,h3,h4,h5,h6⟩
 ·simp at h0
 injection e with e1 e2 e3;subst e1 e3;have e4:(l++[n]).length=l.length+1:=by simp
 rw [e4] at h3 h6⊢;refine h g cap cur.toList w' (show _=_ by simpa using h2) ⟨h1,by simpa using h5,h3,h4,by simpa using h6⟩ ⟨(hb2.mono hB).trans K1,λy hy am=>(K2 y (PQ hy hb2.size) am).trans (hb2.block y hy),?_⟩;rcases G with G | ⟨g',G,kq⟩
 ·exact .inl G.symm
 injection G with G;have:g=g':=G;exact .inr (by have:=hb2.size;omega)
theorem MW {K:Act->World->Prop}{E:Prop}(ez:o.guard=none)(d s:Operand)(dT sT:TypeId)
  (ho:o.op= .call {callee:= .builtin .copy,args:= #[d,s],argTypes:= #[dT,sT]}) (qN:TypeId) (hu:Tryz.prog.underlying dT=some (.slice qN)) (hsz:(Tryz.prog.info? qN).map (·.size)=some 1)
  (dp sp:Option Addr) (qO tX qP tY:Nat) (hd:a.eval d= .slice dp qO tX) (hs:a.eval s= .slice sp qP tY)
  (g off:Nat) (cur:List Value) (t:TypeId) (hg:w.heap[g]? =some (.cells cur.toArray t (0,0))) (cs:List Value) (hn:cs.length=Nat.min qP qO)
  (cT:0<cs.length->dp=some ⟨g,off,none⟩/\∃ad,sp=some ad/\∀j v,cs[j]? =some v->w.cell? (ad.add j)=some v)
  (cg6:off+cs.length<=cur.length) (h1:∀v∈cs,v.oneCell'=true)
  (h:∀w',Hid (w'.heap[g]? =some (.cells (splice cur off cs).toArray t (0,0)))->Hid (Kx g w w')->K (a.put o.dst (goInt cs.length)) w'):
  if Region.wanted o (yielded al a.tmps)=true then Oper.wp Tryz.prog o a w K Q else E:=by
 have hw:Region.wanted o (yielded al a.tmps)=true:=by simp [Region.wanted,ez]
 rw [Pc hw];by_cases h0:cs.length=0
 ·obtain rfl:cs=[]:=Yd h0;have d8:=run_copy_none (P:=Tryz.prog) w dT sT o.type qN dp sp qO tX qP tY hu hsz (by simpa using hn.symm);unfold Oper.wp;simp [execOp,ho,resolve,invoke,builtin,hd,hs,d8,Result.andThen];exact h w (show _=_ by simpa [splice] using hg) ⟨rfl,rfl,rfl,P6 _,λ_ _ _=>rfl⟩
 obtain ⟨rfl,ad,rfl,bt5⟩:=cT (by omega);have d8:=run_copy_row (P:=Tryz.prog) w dT sT o.type qN g off qO tX ad qP tY cur.toArray t cs hu hsz hg hn bt5 (by simpa using cg6) h1;unfold Oper.wp;simp [execOp,ho,resolve,invoke,builtin,hd,hs,d8,Result.andThen];exact h _ (show _=_ by simpa [splice] using setRow_heap w g _ _ t _ hg) ⟨rfl,rfl,rfl,by simp [World.setRow],λk _ hk=>setRow_other w g k _ hk⟩
theorem Tryz.size3:(Tryz.prog.info? 3).map (·.size)=some 1:=by kernel_rfl
theorem US {f:Int->Value}{cur:List Value}(h1:l.length+1<=cur.length)(ht:cur.take (l.length+1)=(l++[0]).map f)(hk:k<=l.length):((splice cur (k+1) ((l.drop k).map f)).set k (f n)).take (l.length+1)=(l.take k++n::l.drop k).map f:=by
 have e1:(cur.take (k+1)).length=k+1:=by rw [RW];omega
 have e2:cur.take k=(l.take k).map f:=by
  have:cur.take k=(cur.take (l.length+1)).take k:=by rw [List.take_take,Zr (by omega)]
  rw [this,ht,<-NU,List.take_append_of_le_length hk]
 have e3:cur.take (k+1)=(l.take k).map f++[cur[k]'(by omega)]:=by
  rw [S1,PR (by omega),e2]
  rfl
 have e4:((l.take k).map f).length=k:=by simp;omega
 unfold splice;rw [e3,T5,List.set_append_right _ _ (by omega),e4,N2];show ((l.take k).map f++(f n::(((l.drop k).map f)++_))).take (l.length+1)=_;rw [R6,Re,<-TY,<-T5];refine Nu ?_;simp;omega
theorem M4 {w4:World}{g1 aL:Nat}{dW:List Value}(hB:B<=g1)(hg:w4.heap[g1]? =some (.cells (splice dW (k+1) ((l.drop k).map λx=>Value.int .i64 x)).toArray 3 (0,0)))(hc:dW.length=aL)(h1:l.length+1<=aL)(hm:aL<=maxLen)(ht:dW.take (l.length+1)=(l++[0]).map λx=>Value.int .i64 x)(hk:k<=l.length):(w4.setCell ⟨g1,k,none⟩ (.int .i64 n)).ownsRow B 3 1 (.slice (some ⟨g1,0,none⟩) (l.length+1) aL) (l.length+1) ((l.take k++n::l.drop k).map λx=>Value.int .i64 x):=by
 refine ⟨by simp;omega,.inr ⟨g1,aL,_,rfl,hB,Q5 hg,h1,hm,?_,?_⟩⟩
 ·rw [Lf,Zw,length_splice _ _ _ (by simp;omega),hc,R4]
 have:=US (f:=λx=>Value.int .i64 x) (n:=n) (by omega) ht hk;simpa using this
theorem va1 {S:Nat->Prop}(rv:Value)(R:List Rw)(c:Nat)(hS:∀y,S y->y<w.heap.size)(hR:PC Qc w S S rv R)(hw:∀r∈R,c<r.2.length)(hl:R.length<=1000000)(bo:∀r∈R,r.2.length<=1000000):
  Calls Tryz.prog 40 #[rv,.int .i64 c] w λr w'=>∃v,r= .returned v/\Below w.heap.size w w'/\Own SQ 3 w.heap.size w' No v (Qu c R):=by
 obtain ⟨ad,cap,rfl⟩:=Pd.len hR;have HS:=P4 hS;have HR:=P4 hR;have HW:Hid (∀r∈R,c<r.2.length/\r.2.length<=1000000):=λr hr=>⟨hw r hr,bo r hr⟩;clear hS hR hw bo;go_enter Tryz.func40,Tryz.ntmps40;go_wp2
 go_loopw [5,6] (λv iv wr=>∃i:Nat,i<=R.length/\iv= .int .i64 i/\Hid (Below w.heap.size w wr)/\Hid (Own SQ 3 w.heap.size wr No v (Qu c (R.take i)))) (λ_ iv _=>R.length-(intOf iv).toNat)
 case atStart=>exact ⟨0,by omega,by go_num,Pb _ _,Own.nil _ _ _ _ _⟩
 obtain ⟨i,hi,rfl,HB,HO⟩:=hrel;by_cases ag:i<R.length
 ·have hk:OZ S w wr:=OZ.of HB.out HS.out;obtain ⟨g,o,rfl,aM,sg,r0,pa,pc,r1,hp⟩:=(HR.on hk hk (λ_ h=>h) λ_ h=>h).rowAt ag;have aW:=HW.out _ (Px ag);obtain ⟨g',o',rfl,gA,_,a0,a1,a2,qa,qc,a3,hv⟩:=hp.at aW.1;have i1:(0:Int)<=(i:Int):=by omega
  have i2:(i:Int)<(R.length:Int):=by omega
  have c1:(0:Int)<=(c:Int):=by omega
  have c2:(c:Int)<(R[i].2.length:Int):=by omega
  have pQ:Qu c (R.take (i+1))=if (R[i].2[c]'aW.1).kind=3 then QI (R[i].2[c]'aW.1).num (Qu c (R.take i)) else Qu c (R.take i):=by
   rw [uy1 ag];unfold Uj;rw [PR aW.1]
  have mL:(Qu c (R.take i)).length<=1000000:=by
   have:=yX c (R.take i) [];rw [RW] at this;unfold Qu;simp at this⊢;omega
  have mM:Hid _:=pQ;have bo:=aW.2;have bg:=aW.1;clear hp hk sg hv pQ;generalize R[i].2[c]'aW.1=q at *
  clear aW;generalize hL:Qu c (R.take i)=l at *
  clear hL;obtain ⟨va,vc,rfl,hown⟩:=HO.ints;have lB:Hid _:=hown;clear hown HO;by_cases h3:q.kind=3
  ·have mN:Hid (Qu c (R.take (i+1))=QI q.num l):=by
    have:=mM.out
    rwa [Pc h3] at this
   clear mM;rw [h3] at a0;generalize q.num=n at *
   generalize q.name=qn at *
   generalize q.kids.length=ql at *
   clear h3;obtain ⟨W0,fV⟩:∃W0,W0=wr.alloc (Obj.cells #[.int .i64 3,.string ⟨qn.toArray⟩,.int .i64 n,.slice qa ql qc] 50):=⟨_,rfl⟩;have dE:Hid (Below wr.heap.size wr W0):=by rw [fV];exact (Pb _ _).alloc (P6 _) _
   have Bv:Hid (W0.heap[wr.heap.size]? =some (Obj.cells #[.int .i64 3,.string ⟨qn.toArray⟩,.int .i64 n,.slice qa ql qc] 50 (0,0))):=by rw [fV];exact PF _ _
   have bR:Hid (∀W',Below W0.heap.size W0 W'->Below w.heap.size w W'/\W'.ownsRow w.heap.size 3 1 (.slice va l.length vc) l.length (l.map λx=>Value.int .i64 x)/\W'.cell? ⟨wr.heap.size,2,none⟩=some (.int .i64 n)):=λW' aj=>by
    have eh:wr.heap.size<W0.heap.size:=PV Bv.out;have eN:Below wr.heap.size wr W':=dE.trans (aj.mono dE.size);refine ⟨HB.trans (eN.mono HB.size),World.ownsRow.kept lB.out (row:=none) ⟨eN.os,eN.tape,eN.output,eN.size,λk hk _=>eN.block k hk⟩ ?_,?_⟩
    ·cases h:(Value.slice va l.length vc).ownBlock with
     | none=>exact .inl rfl
     | some g=>exact .inr (by simp)
    unfold World.cell?;rw [(aj.block _ eh).trans Bv.out]
    rfl
   have H1:Hid (∀(gQ w1 w4:World) (g1:Nat),Below W0.heap.size W0 gQ->(∀y,y<gQ.heap.size->(Value.slice va l.length vc).ownBlock≠some y->w1.heap[y]? =gQ.heap[y]?)->gQ.heap.size<=w1.heap.size->((Value.slice va l.length vc).ownBlock=some g1\/gQ.heap.size<=g1)->Kx g1 w1 w4->w4.cell? ⟨wr.heap.size,2,none⟩=some (.int .i64 n)):=λgQ w1 w4 g1 h1 h2 h3 h4 h5=>by
    have eh:wr.heap.size<W0.heap.size:=PV Bv.out;have bH:=h1.size;have hlt:∀g,(Value.slice va l.length vc).ownBlock=some g->g<wr.heap.size:=λg e=>(World.ownsRow.lt lB.out g e).2;have am:wr.heap.size≠g1:=by
     rcases h4 with h4 | h4
     ·have:=hlt g1 h4;omega
     omega
    have e:=((h5.block wr.heap.size (by omega) am).trans (h2 wr.heap.size (by omega) λe=>by have:=hlt _ e;omega)).trans ((h1.block _ eh).trans Bv.out);unfold World.cell?;rw [e]
    rfl
   clear lB;go_wp2;rw [<-fV]
   go_loopw [8] (λkv gQ=>∃k:Nat,k<=l.length/\kv= .int .i64 k/\Hid (Below W0.heap.size W0 gQ)/\Hid (∀x∈l.take k,x<n)) (λkv _=>l.length-(intOf kv).toNat)
   case atStart=>exact ⟨0,by omega,by go_num,Pb _ _,λx hx=>by simp at hx⟩
   obtain ⟨k,hk,rfl,aS,HM⟩:=hrel;obtain ⟨-,au,y2⟩:=bR.out _ aS.out;have k1:(0:Int)<=(k:Int):=by omega
   by_cases eZ:k<l.length
   ·obtain ⟨gv,rfl,ah3,y0⟩:∃gv,va=some ⟨gv,0,none⟩/\l.length<=vc/\wr.cell? ⟨gv,k,none⟩=some (.int .i64 l[k]):=by
     rcases au.2 with ⟨_,h0⟩ | ⟨gv,cp,cur,e,_,_,h4,_⟩
     ·omega
     injection e with e1 _ e2;subst e1 e2;refine ⟨gv,rfl,h4,?_⟩;have:=au.cellAt k (by omega);rw [this,X8,PR eZ]
     rfl
    have k2:(k:Int)<(l.length:Int):=by omega
    have ij:Hid (l[k]<n->∀x∈l.take (k+1),x<n):=λh x hx=>by
     rw [S1,PR eZ] at hx;rcases PE.1 hx with hx | hx
     ·exact HM.out x hx
     rw [show x=l[k] by simpa using hx];exact h
    have sI:=P4 (ux1 eZ HM.out);have Bx:Hid (n<l[k]->QI n l=l.take k++n::l.drop k):=λh=>Lq HM.out λ_=>h;generalize l[k]=m at *
    clear au;rcases Int.lt_trichotomy m n with pR | pR | pR
    ·have HX:Hid _:=ij.out pR;have e1:decide (m<n)=true:=by simpa using pR
     clear ij sI Bx;go_wp2
     go_region
     all_goals
      go_wp2;refine ⟨⟨k+1,eZ,by go_num,by first | exact aS.out | exact aS.drew,HX.out⟩,by simp [intOf];omega⟩
    ·have HX:Hid _:=sI.out pR;clear ij sI Bx;subst pR;have e1:decide (m<m)=false:=by simp
     have e2:(m==m)=true:=by simp
     go_wp2
     go_region
     all_goals
      go_wp2
      go_region
      all_goals
       go_wp2;refine ⟨⟨i+1,ag,by go_num,by first | exact (bR.out _ aS.out).1 | exact (bR.out _ aS.drew).1 | exact (bR.out _ aS.drew.drew).1,?_⟩,by simp [intOf];omega⟩;show Own _ _ _ _ _ _ _;rw [mN.out,HX.out]
       first | exact Own.ofInts (bR.out _ aS.out).2.1 | exact Own.ofInts (bR.out _ aS.drew).2.1 | exact Own.ofInts (bR.out _ aS.drew.drew).2.1
    have HX:Hid _:=Bx.out pR;have e1:decide (m<n)=false:=by simp;omega
    have e2:(m==n)=false:=by simp;omega
    clear ij sI Bx;go_wp2
    go_region
    all_goals
     go_wp2
     go_region
     all_goals
      go_wp2_with (at_builtin;refine LF (w2:=wr.drew.drew) (l:=l) (n:=0) (v:= .slice (some ⟨gv,0,none⟩) l.length vc) (B:=w.heap.size) rfl _ _ rfl rfl (bR.out _ aS.drew.drew).2.1 wr.heap.size rfl rfl (by omega) (bR.out _ aS.drew.drew).1.size ?_;intro g1 aL dW w1 wh dl tF)
      obtain ⟨er,nS,nT,tZ,jg⟩:=dl.out;obtain ⟨k',bU⟩:∃k',k'=k+1:=⟨_,rfl⟩;obtain ⟨n1,cR⟩:∃n1,n1=l.length+1:=⟨_,rfl⟩;have x0:IntKind.i64.wrap ((k:Int)+1)=(k':Int):=by rw [RV];omega
      have x1:(k':Int)<=(n1:Int):=by omega
      have x2:¬aL=k':=by omega
      have x3:¬aL=k:=by omega
      have x4:(n1:Int)<=(aL:Int):=by omega
      have x5:(k:Int)<=(n1:Int):=by omega
      have x6:(0:Int)<=(k':Int):=by omega
      rw [<-cR];have i':=Qh cR bU;clear cR bU;have k8:=P4 jg;clear jg;have sQ:Hid (∀j v,((l.drop k).map λx=>Value.int .i64 x)[j]? =some v->w1.drew.cell? ((⟨g1,k,none⟩:Addr).add j)=some v):=λj v hj=>by
       have hlt:=(Tt.1 hj).1;rw [Qb,Um] at hlt;have h1:dW[k+j]? =some v:=by
        have h2:(dW.take (l.length+1))[k+j]? =some v:=by
         rw [k8.out,X8,Xo (by omega)];rw [X8,List.getElem?_drop] at hj;exact hj
        rwa [List.getElem?_take_of_lt (by omega)] at h2
       have h3:(⟨g1,k,none⟩:Addr).add j=⟨g1,k+j,none⟩:=by
        by_cases e:j=0
        ·subst e;simp [Addr.add]
        simp [Addr.add,e]
       rw [h3];exact P5 (show w1.drew.heap[g1]? =_ from wh.out) (by simpa using h1)
      go_region_held3 (λw'=>True) (first | trivial)
       (first | (refine MW (by rfl) (.tmp 60) (.tmp 63) 26 26 (by rfl) 3 Tryz.underlying26 Tryz.size3 _ _ _ _ _ _ (by rfl) (by rfl) g1 k' dW 3 wh.out ((l.drop k).map λx=>Value.int .i64 x) (by have:=i'.out;simp only [Qb,Um,Nat.min_def];split<;>omega) (λ_=>⟨rfl,⟨g1,k,none⟩,rfl,sQ.out⟩) (by have:=i'.out;simp only [Qb,Um];omega) (by intro v hv;obtain ⟨x,_,rfl⟩:=PI.1 hv;rfl) ?_;intro w4 qQ hk4))
      have nU:=tF.out;have y4:=H1.out wr.drew.drew w1.drew w4 g1 aS.drew.drew nU.2.1 nU.1.size nU.2.2 hk4.out;have yP:=hk4.out;obtain ⟨cR,bU⟩:=i'.out;subst bU cR;have br5:(splice dW (k+1) ((l.drop k).map λx=>Value.int .i64 x)).length=aL:=by rw [length_splice _ _ _ (by simp;omega),nS]
      have y5:w4.cell? ⟨g1,k,none⟩=some ((splice dW (k+1) ((l.drop k).map λx=>Value.int .i64 x))[k]'(by omega)):=P5 qQ.out (by rw [LQ,PR]);have y6:=Pp (o:=k) qQ.out;generalize ((splice dW (k+1) ((l.drop k).map λx=>Value.int .i64 x))[k]'(by omega))=sv at y5;have bP:Hid (Own SQ 3 w.heap.size (w4.setCell ⟨g1,k,none⟩ (.int .i64 n)) No (.slice (some ⟨g1,0,none⟩) (l.length+1) aL) (Qu c (R.take (i+1)))/\Below w.heap.size w (w4.setCell ⟨g1,k,none⟩ (.int .i64 n))):=by
       have h1:=M4 (n:=n) er qQ.out nS nT tZ k8.out hk;have e:l.length+1=(QI n l).length:=by rw [HX.out];simp;omega
       refine ⟨?_,?_⟩
       ·rw [mN.out];refine Own.ofInts ?_;rw [<-e,HX.out];exact h1
       have hb5:=(bR.out _ aS.drew.drew).1;have hb6:Below w.heap.size w w1.drew:=(hb5.trans nU.1).drew;have hb7:Below w.heap.size w w4:=hb6.trans (yP.below er hb6.size);exact hb7.setCell (p:=⟨g1,k,none⟩) er _
      clear qQ hk4 tF dl wh k8 nU yP sQ;go_wp2;exact ⟨⟨i+1,ag,by go_num,bP.2,bP.1⟩,by simp [intOf];omega⟩
   have qR:k=l.length:=by omega
   have HX:Hid (QI n l=l.take k++n::l.drop k):=Lq HM.out λh=>absurd h eZ;have bd4:¬(k:Int)<(l.length:Int):=by omega
   have By:=P4 qR;have e0:decide (k<l.length)=false:=by simp;omega
   clear au qR eZ;go_wp2
   go_region
   all_goals
    go_wp2
    go_region
    all_goals
     all_goals
      go_wp2_with (at_builtin;refine LF (w2:=wr.drew.drew) (l:=l) (n:=0) (v:= .slice va l.length vc) (B:=w.heap.size) rfl _ _ rfl rfl (bR.out _ aS.drew.drew).2.1 wr.heap.size rfl rfl (by omega) (bR.out _ aS.drew.drew).1.size ?_;intro g1 aL dW w1 wh dl tF)
      obtain ⟨er,nS,nT,tZ,jg⟩:=dl.out;clear bd4;have qR:=By.out;obtain ⟨k',bU⟩:∃k',k'=k+1:=⟨_,rfl⟩;obtain ⟨n1,cR⟩:∃n1,n1=l.length+1:=⟨_,rfl⟩;have x0:IntKind.i64.wrap ((k:Int)+1)=(k':Int):=by rw [RV];omega
      have x1:(k':Int)<=(n1:Int):=by omega
      have x2:aL=k'\/¬aL=k':=by omega
      have x3:¬aL=k:=by omega
      have x4:(n1:Int)<=(aL:Int):=by omega
      have x5:(k:Int)<=(n1:Int):=by omega
      have x6:(0:Int)<=(k':Int):=by omega
      rw [<-cR];have i':=Qh cR bU;clear cR bU qR;have k8:=P4 jg;clear jg;rcases x2 with x2 | x2
      all_goals
       go_region_held3 (λw'=>True) (first | trivial)
        (first | (refine MW (by rfl) (.tmp 60) (.tmp 63) 26 26 (by rfl) 3 Tryz.underlying26 Tryz.size3 _ _ _ _ _ _ (by rfl) (by rfl) g1 k' dW 3 wh.out ((l.drop k).map λx=>Value.int .i64 x) (by have:=i'.out;have:=By.out;simp only [Qb,Um,Nat.min_def];split<;>omega) (λh=>by have:=By.out;simp only [Qb,Um] at h;omega) (by have:=i'.out;have:=By.out;simp only [Qb,Um];omega) (by intro v hv;obtain ⟨x,_,rfl⟩:=PI.1 hv;rfl) ?_;intro w4 qQ hk4))
       have nU:=tF.out;have y4:=H1.out wr.drew.drew w1.drew w4 g1 aS.drew.drew nU.2.1 nU.1.size nU.2.2 hk4.out;have yP:=hk4.out;obtain ⟨cR,bU⟩:=i'.out;subst bU cR;have br5:(splice dW (k+1) ((l.drop k).map λx=>Value.int .i64 x)).length=aL:=by rw [length_splice _ _ _ (by simp;omega),nS]
       have y5:w4.cell? ⟨g1,k,none⟩=some ((splice dW (k+1) ((l.drop k).map λx=>Value.int .i64 x))[k]'(by omega)):=P5 qQ.out (by rw [LQ,PR]);have y6:=Pp (o:=k) qQ.out;generalize ((splice dW (k+1) ((l.drop k).map λx=>Value.int .i64 x))[k]'(by omega))=sv at y5;have bP:Hid (Own SQ 3 w.heap.size (w4.setCell ⟨g1,k,none⟩ (.int .i64 n)) No (.slice (some ⟨g1,0,none⟩) (l.length+1) aL) (Qu c (R.take (i+1)))/\Below w.heap.size w (w4.setCell ⟨g1,k,none⟩ (.int .i64 n))):=by
        have h1:=M4 (n:=n) er qQ.out nS nT tZ k8.out hk;have e:l.length+1=(QI n l).length:=by rw [HX.out];simp;omega
        refine ⟨?_,?_⟩
        ·rw [mN.out];refine Own.ofInts ?_;rw [<-e,HX.out];exact h1
        have hb5:=(bR.out _ aS.drew.drew).1;have hb6:Below w.heap.size w w1.drew:=(hb5.trans nU.1).drew;have hb7:Below w.heap.size w w4:=hb6.trans (yP.below er hb6.size);exact hb7.setCell (p:=⟨g1,k,none⟩) er _
       clear qQ hk4 tF dl wh k8 nU yP;go_wp2;exact ⟨⟨i+1,ag,by go_num,bP.2,bP.1⟩,by simp [intOf];omega⟩
  have mN:Hid (Qu c (R.take (i+1))=l):=by
   have:=mM.out
   rwa [P7 h3] at this
  clear mM;go_wp2;refine ⟨⟨i+1,ag,by go_num,HB.alloc HB.size _,?_⟩,by simp [intOf];omega⟩;show Own _ _ _ _ _ _ _;rw [mN.out];exact Own.ofInts (World.ownsRow.alloc lB.out _)
 obtain rfl:i=R.length:=by omega
 go_wp2;go_ret;refine ⟨_,rfl,HB.out,?_⟩;have:=HO.out
 rwa [QM] at this
end
section
variable {w:World}{S:Nat->Prop}
theorem PC.pathAt {Z:Nat->Prop}{ad:Option Addr}{n cap:Nat}{l:List (List Nat)}(h:PC Qp w Z S (.slice ad n cap) l){i:Nat}(hi:i<l.length):∃g o,ad=some ⟨g,o,none⟩/\l.length<=cap/\Z g/\∃pa pc,w.cell? ⟨g,o+i,none⟩=some (.slice pa l[i].length pc)/\Pv w S (.slice pa l[i].length pc) l[i]:=by
 rcases h with ⟨rfl,_⟩ | ⟨g,o,cap',e,h0,h1,h2⟩
 ·simp at hi
 injection e with e1 e2 e3;subst e1 e3;obtain ⟨z,cs,⟨pa,pc,rfl,hp⟩,hc⟩:=h2 i hi;refine ⟨g,o,rfl,h1,z,pa,pc,?_,hp⟩;have:=hc 0 (by decide);rw [show i*Qp.k=i from R4 i] at this;exact this
theorem Own.made {α:Type}(E:Elt α)(e B:Nat)(w:World)(S:Nat->Prop)(hS:∀y,S y->y<w.heap.size)(hB:B<=w.heap.size):Own E e B (w.alloc (.cells #[] e)) S (.slice (some ⟨w.heap.size,0,none⟩) 0 0) ([]:List α):=by
 refine ⟨⟨[],Sy.nil _ _ _,by simp,.inr ⟨w.heap.size,0, #[],rfl,hB,PF _ _,P6 _,by decide,by simp,by simp⟩⟩,λy hy e=> ?_⟩;injection e with e;have:=hS y hy;have:w.heap.size=y:=e;omega
theorem Pi.made {α:Type}(E:Elt α)(e:Nat)(w:World)(S:Nat->Prop)(hS:∀y,S y->y<w.heap.size):Pi E e w.heap.size S (w.alloc (.cells #[] e)) (.slice (some ⟨w.heap.size,0,none⟩) 0 0) ([]:List α):=by
 refine (Own.made E e w.heap.size w S hS (P6 _)).up (λ_ h=> .inl h) λy hy e=> ?_;rcases hy with hy | hy
 ·injection e with e;have:=hS y hy;have:w.heap.size=y:=e;omega
 exact hy.2.2 e
def Zp (l:List (List Nat))(c many:Nat):List (List Nat):=Qd l c ((List.range many).map λi=>l.getD c []++[i])
theorem JU (lv:Value)(l:List (List Nat))(c many:Nat)(hS:∀y,S y->y<w.heap.size)(hL:PC Qp w S S lv l)(hc:c<l.length)(hl:l.length<=1000000)(hm:many<=1000)(bo:∀p∈l,p.length<=1000000):
  Calls Tryz.prog 39 #[lv,.int .i64 c,.int .i64 many] w λr w'=>∃v,r= .returned v/\Below w.heap.size w w'/\Pi Qp 26 w.heap.size S w' v (Zp l c many):=by
 obtain ⟨ad,cap,rfl⟩:=Pd.len hL;have HS:=P4 hS;have HL:=P4 hL;obtain ⟨g,o,rfl,aM,sg,pa,pc,r0,hp⟩:=hL.pathAt hc;have jh:l[c].length<=1000000:=bo _ (Px hc);have HG:Hid (l.getD c []=l[c]):=by
  show _=_;rw [UU,PR hc]
  rfl
 have c1:(0:Int)<=(c:Int):=by omega
 have c2:(c:Int)<(l.length:Int):=by omega
 have hcc:(l.length:Int)<=(cap:Int):=by omega
 have HP:=Ro hp sg r0;clear hS hL hp bo sg r0;go_enter Tryz.func39,Tryz.ntmps39
 go_wp2_with (at_builtin;refine Yg (E:=Qp) (Z:=S) (v:= .slice none 0 0) Tryz.ty58 rfl _ _ rfl (l:=[]) rfl (Pi.nil _ _ w.heap.size S w) HS.out (P6 _) (Pb _ _) rfl (m:=l.take c) ((HL.take c (by omega)).on (OZ.refl _ _) (OZ.refl _ _) (λ_ h=>h) λ_ h=> .inl h) (by simp;omega) ?_;intro v1 w1 O1 B1 _)
 have ng:=Qh O1 B1;clear O1 B1
 go_loopw [7,8] (λv iv wr=>∃i:Nat,i<=many/\iv= .int .i64 i/\Hid (Below w.heap.size w wr)/\Hid (Pi Qp 26 w.heap.size S wr v (l.take c++(List.range i).map λi=>l[c]++[i]))) (λ_ iv _=>many-(intOf iv).toNat)
 case atStart=>exact ⟨0,by omega,by go_num,ng.2,by show Pi _ _ _ _ _ _ _;simpa using ng.1⟩
 obtain ⟨i,hi,rfl,HB,HO⟩:=hrel;by_cases ag:i<many
 ·have i1:(0:Int)<=(i:Int):=by omega
  have i2:(i:Int)<(many:Int):=by omega
  have gO:Hid (∀y,S y->y<wr.heap.size):=λy hy=>PQ (HS.out y hy) HB.size;have HK:Hid (∀W',Below wr.heap.size wr W'->Pv W' S (.slice pa l[c].length pc) l[c]/\W'.cell? ⟨g,o+c,none⟩=some (.slice pa l[c].length pc)):=λW' aj=>by
   have hk:OZ S w W':=OZ.of (HB.trans (aj.mono HB.size)) HS.out;exact ⟨HP.1.on hk,(hk.cell (p:=⟨g,o+c,none⟩) HP.2.1).trans HP.2.2⟩
  obtain ⟨W0,fV⟩:∃W0,W0=wr.alloc (.cells #[] 3):=⟨_,rfl⟩;have cu:Below wr.heap.size wr W0:=by rw [fV];exact (Pb _ _).alloc (P6 _) _
  have wk:Hid (Pi S9 3 wr.heap.size S W0 (.slice (some ⟨wr.heap.size,0,none⟩) 0 0) []):=by rw [fV];exact Pi.made _ _ _ _ gO.out
  have y0:=(HK.out wr (Pb _ _)).2;have dh:g<wr.heap.size:=gO.out g HP.2.1;have lH:Hid _:=(HK.out W0 cu).1;have dE:=P4 cu;clear cu;have cX:Hid ((l.take c++(List.range i).map λi=>l[c]++[i]).length<=1001000):=by
   show _<=_;simp;omega
  generalize bd5:l[c]=p at *
  go_wp2_with (at_builtin;first
   | (rw [<-fV];(refine Yg (E:=S9) (Z:=S) (v:= .slice (some ⟨wr.heap.size,0,none⟩) 0 0) Tryz.ty26 rfl _ _ rfl (l:=[]) rfl wk.out gO.out dE.out.size (Pb _ _) rfl (m:=p) (Pv.toE lH.out) (by simp;omega) ?_);intro v3 w3 O3 B3 _;rw [VP] at O3)
   | (refine Ue (E:=S9) (v:=v3) (w1:=w3) (cs:=[.int .i64 i]) (p:=i) Tryz.ty26 rfl _ _ rfl rfl O3 gO.out (PZ dE.out.size B3.size) (Pb _ _) rfl rfl (P6 _) (by omega) ?_;intro v4 w4 O4 B4 _;obtain ⟨H2,qj,e4⟩:=Own.len O4;rw [QP] at e4;subst e4)
   | (refine Ue (E:=Qp) (v:=u7) (w1:=wr) (w2:=w4) (cs:=[.slice H2 (p.length+1) qj]) (p:=p++[i]) Tryz.ty58 rfl _ _ rfl rfl HO.out HS.out HB.out.size (dE.out.trans (B3.trans B4)) rfl ⟨H2,qj,by rw [QP];rfl,by rw [QP];exact (PC.toNats (Pi.rowE O4)).up λy hy=> .inr ⟨PZ HB.out.size hy.1,hy.2,λe=>by have:=(HO.out.lt y e).2;omega⟩⟩ (P6 _) (by have:=cX.out;omega) ?_;intro v5 w5 O5 B5 _))
  refine ⟨⟨i+1,ag,by go_num,HB.trans B5,?_⟩,by simp [intOf];omega⟩;show Pi _ _ _ _ _ _ _;rw [YH,R6,<-T5];exact O5
 obtain rfl:i=many:=by omega
 have HD:Hid (∀W',Below w.heap.size w W'->PC Qp W' S S (.slice (some ⟨g,o,none⟩) l.length cap) l):=λW' aj=>HL.on (OZ.of aj HS.out) (OZ.of aj HS.out) (λ_ h=>h) λ_ h=>h
 go_wp2_with (at_builtin;refine Yg (E:=Qp) (Z:=S) (v:=u7) Tryz.ty58 rfl _ _ rfl rfl HO.out HS.out HB.size (Pb _ _) rfl (m:=l.drop (c+1)) (PC.on (PC.drop (HD.out _ HB.out) (c+1) ?_) (OZ.refl _ _) (OZ.refl _ _) (λ_ h=>h) λ_ h=> .inl h) (by simp;omega) ?_;rotate_left;intro v5 w5 O5 B5 _;rotate_left)
 ·intro h;omega
 ·intro _;exact (R4 _).symm
 all_goals
  go_ret;refine ⟨v5,rfl,HB.trans B5,?_⟩;unfold Zp;rw [HG.out];simpa [Qd] using O5
end
