import Derived.Test.YtpdmkhnonbbhnaaGreatVk
import Derived.Test.YtpdmkhnonbbhnaaGreatMrx
import Derived.Test.YtpdmkhnonbbhnaaGreatMnx
import Derived.Test.YtpdmkhnonbbhnaaGreatMqx
namespace Go.Proofs.YtpdmkhnonbbhnaaGreat
open Go.RowKit Go.Maps
set_option maxHeartbeats 8000000
set_option maxRecDepth 10000
section
variable {w W:World}{lo n D:Nat}{l:List Rs}{S':Nat->Prop}
def PY (ao:List Qj)(p:List Nat):Lb×Nat:=match ao.find? (λs=>s.1==p) with
 | some s=>s.2
 | none=>((1,[],0),0)
def So (ao:List Qj):(d:Nat)->List Nat->Pn (d+1)
 | 0,p=>((PY ao p).1,[])
 | d+1,p=>((PY ao p).1,(List.range (PY ao p).2).map λi=>So ao d (p++[i]))
def Qi (D n:Nat)(ao:List Qj):List (Pn (D+1)):=(List.range n).map λi=>So ao D [i]
def Rq (D:Nat)(k:Kn)(fs:List Pu)(f:Nat)(t:Tr f)(rows:List (List Pt)):Cv D:=
 (!(Qx k fs f t).isSome,(List.range rows.length).filter λr=> !(Py f t).contains r,match Qx k fs f t with
  | none=> []
  | some ao=>match rows with
   | []=> []
   | r::_=>Qi D r.length ao)
def UO (k:Kn)(rows:List (List Pt)):Prop:=(∀x∈rows,x.length=(rows.headD []).length)/\∀c∈QA [] (rows.headD []).length (Qy rows),PU k c.2.2
def Pj (F:Nat)(k:Kn)(fs:List Pu)(rows:List (List Pt)):Tr F×Nat:=Ps k fs F 0 (QA [] (rows.headD []).length (Qy rows)) (List.range rows.length)
def RR (F:Nat)(fs:List Pu)(rows:List (List Pt))(e:Int)(o:Option (Tr F×Cv F)):Prop:=
 (Rh rows=true/\e=2/\o=none)\/(Rh rows=false/\((Po 0 [] fs=none/\e=70/\o=none)\/∃k,Po 0 [] fs=some k/\
  ((¬UO k rows/\e=71/\o=none)\/(UO k rows/\
   ((5000<(Pj F k fs rows).2/\e=4/\o=none)\/((Pj F k fs rows).2<=5000/\
    (((1000<Pa F (Pj F k fs rows).1\/RU rows=true)/\e=3/\o=none)\/((Pa F (Pj F k fs rows).1<=1000/\RU rows=false)/\e=0/\o=some ((Pj F k fs rows).1,Rq F k fs F (Pj F k fs rows).1 rows)))))))))
theorem E' (l:List Rs)(p:List Nat):PY (l.map (·.1)) p=match SC l p with
  | some x=>x.1.2
  | none=>((1,[],0),0):=by
 unfold PY SC;rw [List.find?_map];cases h:List.find? ((λs:Qj=>s.1==p)∘λx:Rs=>x.1) l with
 | none=>
  have h':List.find? (λx:Rs=>x.1.1==p) l=none:=h;rw [h']
  rfl
 | some x=>
  have h':List.find? (λx:Rs=>x.1.1==p) l=some x:=h;rw [h']
  rfl
theorem YP {Lb:Nat}(hm:Mw w lo Lb n l)(h:Mi w lo Lb n l l.length W)(hS:∀y,lo<=y->y<W.heap.size->S' y)(hD:∀x∈l,x.1.1.length<=D)(tc:∀x∈l,x.1.2.2<=8)(fx:∀x∈l,x.1.2.1.2.1.length<140737488355328):
  ∀(d:Nat) (p:List Nat),p.length+d=D+1->∀(B i:Nat),S' B->(∀c,c<4->W.cell? ⟨B,i*4+c,none⟩=(RB l p)[c]?)->Td W S' (d+1) B (i*4) (So (l.map (·.1)) d p):=by
 have ll:l.drop (l.length-l.length)=l:=by simp
 intro d
 induction d with
 | zero=>
  intro p hp B i hB hc;have hn:SC l p=none:=Dw λy hy e=>by
   have:=hD y hy;rw [e] at this;omega
  have hl:=E' l p;rw [hn] at hl;unfold RB at hc;rw [hn] at hc;unfold So;rw [hl];exact ⟨hB,hc 0 (by omega),hc 1 (by omega),hc 2 (by omega),by simp,by simp,_,hc 3 (by omega),.inl ⟨rfl,none,0,rfl⟩⟩
 | succ d ih=>
  intro p hp B i hB hc;have hl:=E' l p;unfold RB at hc;cases hs:SC l p with
  | none=>
   rw [hs] at hl hc;unfold So;rw [hl];exact ⟨hB,hc 0 (by omega),hc 1 (by omega),hc 2 (by omega),by simp,by simp,_,hc 3 (by omega),.inl ⟨rfl,none,0,rfl⟩⟩
  | some x=>
   rw [hs] at hl hc;obtain ⟨hx,uR⟩:=Nt hs;unfold So;rw [hl];have h8:=tc x hx;refine ⟨hB,hc 0 (by omega),hc 1 (by omega),hc 2 (by omega),fx x hx,by simp;omega,_,hc 3 (by omega),?_⟩;show Pd 4 (Td W S' (d+1)) (.slice x.2.2.1 x.1.2.2 x.2.2.2) ((List.range x.1.2.2).map λi=>So (l.map (·.1)) d (p++[i]));by_cases h0:x.1.2.2=0
   ·rw [h0];exact .inl ⟨rfl,_,_,rfl⟩
   rcases hm.args x hx with ⟨_,e,_⟩ | ⟨B',e1,e2,e3,e4⟩
   ·exact absurd e h0
   have hg:=h.done x (by rw [ll];exact hx) B' e1;rw [ll,uR] at hg;obtain ⟨cur,g1,g2,g3⟩:=hg;refine .inr ⟨B',0,x.2.2.2,by rw [e1];simp,by simpa using h0,by rw [e2];simp,λj hj=> ?_⟩;have aJ:j<x.1.2.2:=by simpa using hj
   rw [R7,X2,Rp];refine ih (p++[j]) (by simp;omega) B' j (hS B' e3 (PV g1)) λc jA=> ?_;have:=g3 j aJ c jA;rw [<-this];unfold World.cell?;rw [g1]
   rfl
theorem XT {Lb:Nat}(hm:Mw w lo Lb n l)(h:Mi w lo Lb n l l.length W)(hS:∀y,lo<=y->y<W.heap.size->S' y)(hD:∀x∈l,x.1.1.length<=D)(tc:∀x∈l,x.1.2.2<=8)(fx:∀x∈l,x.1.2.1.2.1.length<140737488355328):
  Pl W S' (.slice (some ⟨Lb,0,none⟩) n n) ((Qi D n (l.map (·.1))).map λu=>(⟨D+1,u⟩:Pt)):=by
 have ll:l.drop (l.length-l.length)=l:=by simp
 by_cases h0:n=0
 ·subst h0;exact .inl ⟨rfl,_,_,rfl⟩
 have hg:=h.root;rw [ll] at hg;obtain ⟨cur,g1,g2,g3⟩:=hg;refine .inr ⟨Lb,0,n,by simp [Qi],by simpa [Qi] using h0,by simp [Qi],λj hj=> ?_⟩;have aJ:j<n:=by simpa [Qi] using hj
 have e:((Qi D n (l.map (·.1))).map λu=>(⟨D+1,u⟩:Pt))[j]=⟨D+1,So (l.map (·.1)) D [j]⟩:=by simp [Qi]
 rw [e,Rp];refine YP hm h hS hD tc fx D [j] (by simp;omega) Lb j (hS Lb (PZ hm.low hm.root) (PV g1)) λc jA=> ?_;have:=g3 j aJ c jA;rw [VP] at this;rw [<-this];unfold World.cell?;rw [g1]
 rfl
end
section
variable {w:World}{n lo:Nat}{l:List Rs}
def Ux (w:World):Nat->Value->List Nat->Prop
 | 0,v,bs=>∃ad cap,v= .slice ad 0 cap/\QG w 4 50 ad 0 cap bs
 | d+1,v,bs=>∃(ad:Option Addr) (n cap:Nat) (b0:List Nat) (aC:List (List Nat)),v= .slice ad n cap/\bs=b0++aC.flatten/\QG w 4 50 ad n cap b0/\aC.length=n/\∀i (h:i<aC.length),∃g u,ad=some ⟨g,0,none⟩/\w.cell? ⟨g,i*4+3,none⟩=some u/\Ux w d u aC[i]
theorem Ux.on {w w':World}:∀(d:Nat) (v:Value) (bs:List Nat),Ux w d v bs->(∀b∈bs,w'.heap[b]? =w.heap[b]?)->Ux w' d v bs
 | 0,_,_,⟨ad,cap,h1,h2⟩,hk=>⟨ad,cap,h1,h2.on hk⟩
 | d+1,v,bs,⟨ad,n,cap,b0,aC,h1,h2,h3,h4,h5⟩,hk=>by
  have k0:∀b∈b0,w'.heap[b]? =w.heap[b]? :=λb hb=>hk b (by rw [h2];simp [hb]);refine ⟨ad,n,cap,b0,aC,h1,h2,h3.on k0,h4,λi hi=> ?_⟩;obtain ⟨g,u,e,c,ht⟩:=h5 i hi;have hg:=k0 g (by rw [h3.at e];simp);refine ⟨g,u,e,(Qm hg _).trans c,Ux.on d _ _ ht λb hb=>hk b ?_⟩;rw [h2];have:b∈aC.flatten:=RF.2 ⟨_,Px hi,hb⟩;exact PE.2 (.inr this)
def YE (w:World)(lo hi:Nat)(ad1:Option Addr)(n1 c1:Nat)(ad2:Option Addr)(n2 c2:Nat):Prop:=∃bi bm d,QG w 1 3 ad1 n1 c1 bi/\Ux w d (.slice ad2 n2 c2) bm/\(bi++bm).Nodup/\∀b∈bi++bm,lo<=b/\b<hi
theorem tb0 {k e:Nat}{ad:Option Addr}{cap:Nat}{bs:List Nat}(h:QG w k e ad n cap bs):bs.Nodup:=by
 rcases h with ⟨_,_,_,e⟩ | ⟨g,cur,_,e,_⟩<;>rw [e]<;>simp
theorem tc0 {hi:Nat}{ad1:Option Addr}{n1 c1:Nat}{bi:List Nat}(h:QG w 1 3 ad1 n1 c1 bi)(hb:∀b∈bi,lo<=b/\b<hi):YE w lo hi ad1 n1 c1 none 0 0:=
 ⟨bi,[],0,h,⟨none,0,rfl,.inl ⟨rfl,rfl,rfl,rfl⟩⟩,by rw [SH];exact tb0 h,by rw [SH];exact hb⟩
def TV (l:List Rs)(p:List Nat):Value:=match SC l p with
 | some x=> .slice x.2.2.1 x.1.2.2 x.2.2.2
 | none=> .slice none 0 0
theorem En (l:List Rs)(p:List Nat):(RB l p)[3]? =some (TV l p):=by
 unfold RB TV;cases SC l p<;>rfl
def SU (x:Rs):List Nat:=match x.2.2.1 with
 | some a=> [a.block]
 | none=> []
def S8 (l:List Rs):Nat->List Nat->List Nat
 | 0,_=> []
 | d+1,p=>match SC l p with
  | none=> []
  | some x=>SU x++((List.range x.1.2.2).map λi=>S8 l d (p++[i])).flatten
theorem KX {B:Nat}:∀{l:List Rs},(l.Pairwise λx y=>∀B,x.2.2.1=some ⟨B,0,none⟩->y.2.2.1≠some ⟨B,0,none⟩)->∀{x y:Rs},x∈l->y∈l->x.2.2.1=some ⟨B,0,none⟩->y.2.2.1=some ⟨B,0,none⟩->x=y
 | a::r,h,x,y,hx,hy,ex,ey=>by
  obtain ⟨h1,h2⟩:=U5.1 h;rcases Qa.1 hx with IF | IG
  ·rcases Qa.1 hy with F9 | Fa
   ·rw [IF,F9]
   exact absurd ey (h1 y Fa B (by rw [<-IF];exact ex))
  rcases Qa.1 hy with F9 | Fa
  ·exact absurd ex (h1 x IG B (by rw [<-F9];exact ey))
  exact KX h2 IG Fa ex ey
theorem Oi {w:World}{lo Lb n:Nat}{l:List Rs}(hm:Mw w lo Lb n l):∀(d:Nat) (p:List Nat) (b:Nat),b∈S8 l d p->∃x∈l,p<+:x.1.1/\x.2.2.1=some ⟨b,0,none⟩/\lo<=b/\b<w.heap.size
 | 0,_,_,h=>by simp [S8] at h
 | d+1,p,b,h=>by
  unfold S8 at h;cases hs:SC l p with
  | none=>rw [hs] at h;simp at h
  | some x=>
   rw [hs] at h;obtain ⟨hx,uR⟩:=Nt hs;rcases PE.1 h with h | h
   ·refine ⟨x,hx,by rw [uR];exact OT _,?_⟩;rcases hm.args x hx with ⟨e,_⟩ | ⟨B,e,_,e3,e4⟩
    ·unfold SU at h;rw [e] at h;simp at h
    unfold SU at h;rw [e] at h;have:b=B:=by simpa using h
    rw [this];exact ⟨e,e3,e4⟩
   obtain ⟨bs,hbs,hb⟩:=RF.1 h;obtain ⟨i,_,rfl⟩:=PI.1 hbs;obtain ⟨y,hy,h1,h2⟩:=Oi hm d (p++[i]) b hb;exact ⟨y,hy,(MM p [i]).trans h1,h2⟩
theorem te0 {Lb:Nat}(hm:Mw w lo Lb n l)(d:Nat)(p:List Nat){i j:Nat}(mF:i≠j){b:Nat}(h1:b∈S8 l d (p++[i]))(h2:b∈S8 l d (p++[j])):False:=by
 obtain ⟨x,hx,x1,x2,_⟩:=Oi hm d _ b h1;obtain ⟨y,hy,y1,y2,_⟩:=Oi hm d _ b h2;obtain rfl:=KX hm.apart hx hy x2 y2;have:=(List.prefix_of_prefix_length_le x1 y1 (by simp)).eq_of_length (by simp);exact mF (by simpa using this)
theorem xd {g:Nat->List Nat}(h1:∀i,(g i).Nodup)(h2:∀i j b,i≠j->b∈g i->b∈g j->False):∀m,(((List.range m).map g).flatten).Nodup
 | 0=>by simp
 | m+1=>by
  rw [YH,R6,Tu,S7];refine ⟨xd h1 h2 m,by simpa using h1 m,λa ha b hb e=> ?_⟩;obtain ⟨l,hl,ha⟩:=RF.1 ha;obtain ⟨i,hi,rfl⟩:=PI.1 hl;have hi:=T2.1 hi;have hb:b∈g m:=by simpa using hb
  rw [<-e] at hb;exact h2 i m a (by omega) ha hb
theorem Nl {w:World}{lo Lb n:Nat}{l:List Rs}(hm:Mw w lo Lb n l):∀(d:Nat) (p:List Nat),(S8 l d p).Nodup
 | 0,_=>Vr
 | d+1,p=>by
  unfold S8;cases hs:SC l p with
  | none=>exact Vr
  | some x=>
   obtain ⟨hx,uR⟩:=Nt hs;show (SU x++_).Nodup;rw [S7];refine ⟨?_,xd (λi=>Nl hm d _) (λi j b mF=>te0 hm d p mF) _,λa ha b hb e=> ?_⟩
   ·unfold SU;cases x.2.2.1<;>simp
   obtain ⟨bs,hbs,hb⟩:=RF.1 hb;obtain ⟨i,_,rfl⟩:=PI.1 hbs;obtain ⟨y,hy,y1,y2,_⟩:=Oi hm d _ b hb;rcases hm.args x hx with ⟨e',_⟩ | ⟨B,e',_⟩
   ·unfold SU at ha;rw [e'] at ha;simp at ha
   unfold SU at ha;rw [e'] at ha;have:a=B:=by simpa using ha
   rw [this] at e;rw [<-e] at y2;obtain rfl:=KX hm.apart hx hy e' y2;rw [uR] at y1;have:=y1.length_le;simp at this;omega
theorem tg0 {w:World}{lo Lb n D:Nat}{l:List Rs}{W:World}(hm:Mw w lo Lb n l)(h:Mi w lo Lb n l l.length W)(hD:∀x∈l,x.1.1.length<=D)(tc:∀x∈l,x.1.2.2<=8):∀(d:Nat) (p:List Nat),p.length+d=D+1->Ux W d (TV l p) (S8 l d p)
 | 0,p,hp=>by
  have hn:SC l p=none:=Dw λy hy e=>by
   have:=hD y hy;rw [e] at this;omega
  unfold TV;rw [hn];exact ⟨none,0,rfl,.inl ⟨rfl,rfl,rfl,rfl⟩⟩
 | d+1,p,hp=>by
  have ll:l.drop (l.length-l.length)=l:=by simp
  unfold TV S8;cases hs:SC l p with
  | none=>exact ⟨none,0,0,[],[],rfl,rfl,.inl ⟨rfl,rfl,rfl,rfl⟩,rfl,λi hi=>by simp at hi⟩
  | some x=>
   obtain ⟨hx,uR⟩:=Nt hs;have h8:=tc x hx;refine ⟨x.2.2.1,x.1.2.2,x.2.2.2,SU x,(List.range x.1.2.2).map λi=>S8 l d (p++[i]),rfl,rfl,?_,by simp,λi hi=> ?_⟩
   ·rcases hm.args x hx with ⟨e1,e2,e3⟩ | ⟨B,e1,e2,_⟩
    ·exact .inl ⟨e1,e2,e3,by unfold SU;rw [e1]⟩
    have hg:=h.done x (by rw [ll];exact hx) B e1;obtain ⟨cur,g1,g2,_⟩:=hg;exact .inr ⟨B,cur,e1,by unfold SU;rw [e1],g1,by rw [e2];exact g2,by rw [e2];exact P6 _,by rw [e2];unfold maxLen;omega⟩
   have aB:i<x.1.2.2:=by simpa using hi
   rcases hm.args x hx with ⟨_,e2,_⟩ | ⟨B,e1,e2,_⟩
   ·omega
   have hg:=h.done x (by rw [ll];exact hx) B e1;rw [ll,uR] at hg;obtain ⟨cur,g1,g2,g3⟩:=hg;have hc:=g3 i aB 3 (by omega);rw [En] at hc;refine ⟨B,TV l (p++[i]),e1,P0 g1 hc,?_⟩;rw [R7,X2];exact tg0 hm h hD tc d (p++[i]) (by simp;omega)
theorem YB {Lb D:Nat}{W:World}(hm:Mw w lo Lb n l)(h:Mi w lo Lb n l l.length W)(hn:n<=1000)(hD:∀x∈l,x.1.1.length<=D)(tc:∀x∈l,x.1.2.2<=8):∃bm,Ux W (D+1) (.slice (some ⟨Lb,0,none⟩) n n) bm/\bm.Nodup/\∀b∈bm,lo<=b/\b<W.heap.size:=by
 have ll:l.drop (l.length-l.length)=l:=by simp
 have hg:=h.root;rw [ll] at hg;obtain ⟨cur,g1,g2,g3⟩:=hg;have hLb:=PV g1;have hr:=hm.root;have hl:=hm.low;have gU:∀b∈((List.range n).map λi=>S8 l D ([]++[i])).flatten,lo<=b/\b<w.heap.size:=λb hb=>by
  obtain ⟨bs,hbs,hb⟩:=RF.1 hb;obtain ⟨i,_,rfl⟩:=PI.1 hbs;obtain ⟨y,hy,_,_,y3⟩:=Oi hm D _ b hb;exact y3
 refine ⟨[Lb]++((List.range n).map λi=>S8 l D ([]++[i])).flatten,⟨some ⟨Lb,0,none⟩,n,n,[Lb],(List.range n).map λi=>S8 l D ([]++[i]),rfl,rfl,.inr ⟨Lb,cur,rfl,rfl,g1,g2,P6 _,by unfold maxLen;omega⟩,by simp,λi hi=> ?_⟩,?_,?_⟩
 ·have aB:i<n:=by simpa using hi
  have hc:=g3 i aB 3 (by omega);rw [En] at hc;refine ⟨Lb,TV l ([]++[i]),rfl,P0 g1 hc,?_⟩;rw [R7,X2];exact tg0 hm h hD tc D ([]++[i]) (by simp;omega)
 ·rw [S7];refine ⟨by simp,xd (λi=>Nl hm D _) (λi j b mF=>te0 hm D [] mF) _,λa ha b hb e=> ?_⟩;have ha:a=Lb:=by simpa using ha
  have:=gU b hb;omega
 intro b hb;rcases PE.1 hb with hb | hb
 ·have hb:b=Lb:=by simpa using hb
  omega
 have:=gU b hb;omega
end
section
variable {Cb mb i F f:Nat}{wr W:World}{v:Value}{k:Kn}{fs:List Pu}{rows:List (List Pt)}{ao:List Qj}
theorem Tryz.info4:(Tryz.prog.info? 4).map (λi=>(i.zero,i.size,i.bytes))=some (some (.bool false),1,1):=by kernel_rfl
theorem sv0 (w:World)(n:Nat)(hn:n<=1000):(Instr.makeSlice 93 (.int .i64 n) (.int .i64 n)).run Tryz.prog w= .ok (.slice (some ⟨w.heap.size,0,none⟩) n n) (w.alloc (.cells (bV (List.replicate n false)) 4)):=by
 obtain ⟨i0,hi,c8,bK,bJ⟩:=info_parts Tryz.info4;have:=Y6 (P:=Tryz.prog) w 93 4 i0 _ Tryz.underlying93 hi c8 .i64 .i64 n n (by omega) (Yp _) (by rw [bK];simp;omega) (by rw [bJ];omega) (by omega);have tO:(Value.bool false).cells= #[.bool false]:=rfl;have e:madeCells #[.bool false] n=bV (List.replicate n false):=by
  apply Zj;intro i;unfold madeCells bV;rw [Array.getElem?_map,Array.getElem?_range];by_cases h:i<n
  ·rw [Pc h];simp [h,Nat.mod_one]
  rw [P7 h];simp [h]
 rw [tO] at this;rw [<-e];simpa [bK] using this
def Pf (bs:List Bool)(i:Nat):List Nat:=(List.range i).filter λr=> !(bs[r]?.getD false)
theorem OV (bs:List Bool)(i:Nat)(h:i<bs.length):Pf bs (i+1)=Pf bs i++(if bs[i] then [] else [i]):=by
 unfold Pf;rw [YH,ZM]
 congr 1
 rw [OK,List.filter_nil,PR h];simp only [Ma];cases bs[i]<;>rfl
theorem M8:∀(l:List Nat) (bs:List Bool) (r:Nat) (h:r<bs.length),(Qf bs l)[r]?.getD false=(bs[r] || l.contains r)
 | [],bs,r,h=>by
  show bs[r]?.getD false=_;rw [PR h];simp
 | a::l,bs,r,h=>by
  show (Qf (bs.set a true) l)[r]?.getD false=_;rw [M8 l (bs.set a true) r (by rw [XO];exact h),ON,List.contains_cons];by_cases e:a=r
  ·subst e;simp
  rw [P7 e];have:(r==a)=false:=Y2.2 λq=>e q.symm;rw [this,Np]
theorem FN (t:Tr f)(n:Nat):Pf (Qf (List.replicate n false) (Py f t)) n=(List.range n).filter λr=> !(Py f t).contains r:=by
 unfold Pf;refine NA λr hr=> ?_;rw [T2] at hr;rw [M8 _ _ r (by simpa using hr)];simp
structure Cw (W:World)(Cb:Nat)(bs:List Bool)(mb:Nat)(i:Nat)(v:Value)(wr:World):Prop where
 below:Below Cb W wr
 blk:wr.heap[Cb]? =some (.cells #[.bool false,v,.slice none 0 0] 33 (0,0))
 own:wr.ownsRow (Cb+1) 3 1 v (Pf bs i).length ((Pf bs i).map λ(r:Nat)=>Value.int .i64 r)
theorem Cw.lt {bs:List Bool}(h:Cw W Cb bs mb i v wr):Cb<wr.heap.size:=PV h.blk
theorem Cw.skip {bs:List Bool}(h:Cw W Cb bs mb i v wr)(hi:i<bs.length)(hb:bs[i]=true):Cw W Cb bs mb (i+1) v wr:=by
 have e:Pf bs (i+1)=Pf bs i:=by rw [OV bs i hi,Pc hb,SH]
 exact ⟨h.below,h.blk,by rw [e];exact h.own⟩
theorem Cw.put {bs:List Bool}(h:Cw W Cb bs mb i v wr)(hi:i<bs.length)(hb:bs[i]=false){o:Obj}{g cap:Nat}{w5:World}(ho:w5.ownsRow (Cb+1) 3 1 (.slice (some ⟨g,0,none⟩) ((Pf bs i).length+1) cap) ((Pf bs i).length+1) ((Pf bs i).map (λ(r:Nat)=>Value.int .i64 r)++[.int .i64 i]))(hg:(wr.alloc o).grownBy w5 v.ownBlock):
  w5.heap[Cb]? =some (.cells #[.bool false,v,.slice none 0 0] 33 (0,0))/\Cw W Cb bs mb (i+1) (.slice (some ⟨g,0,none⟩) ((Pf bs i).length+1) cap) (w5.setCell ⟨Cb,1,none⟩ (.slice (some ⟨g,0,none⟩) ((Pf bs i).length+1) cap)):=by
 have hlt:=h.lt;have Au:∀y,v.ownBlock=some y->Cb+1<=y:=λy e=>(h.own.lt y e).1;have fX:Below Cb W (wr.alloc o):=h.below.alloc (by have:=h.below.size;omega) _;have hb5:Below Cb W w5:=fX.grown hg (by simp;omega) (λy e=>by have:=Au y e;omega);have aE:w5.heap[Cb]? =some (.cells #[.bool false,v,.slice none 0 0] 33 (0,0)):=by
  rw [hg.block Cb (by simp;omega) (λe=>by have:=Au _ e.symm;omega),Qq _ _ _ hlt];exact h.blk
 have e:Pf bs (i+1)=Pf bs i++[i]:=by rw [OV bs i hi,P7 (by rw [hb];simp)]
 refine ⟨aE,hb5.setCell (p:=⟨Cb,1,none⟩) (P6 _) _,?_,?_⟩
 ·have:=Q5 (i:=1) (v:= .slice (some ⟨g,0,none⟩) ((Pf bs i).length+1) cap) aE;exact this
 rw [e,QP,R6];obtain ⟨q1,q2⟩:=ho;refine ⟨q1,?_⟩;rcases q2 with ⟨q2,_⟩ | ⟨g',cap',cur,q2,q3,q4,q5⟩
 ·cases q2
 refine .inr ⟨g',cap',cur,q2,q3,?_,q5⟩;rw [PX _ _ _ _ (by show g'≠Cb;omega)];exact q4
theorem Cw.nats {bs:List Bool}{w':World}(h:Cw W Cb bs mb i v wr)(hk:∀y,Cb<y->y<wr.heap.size->w'.heap[y]? =wr.heap[y]?)(hs:wr.heap.size<=w'.heap.size){lo:Nat}(iR:lo<=Cb):∃ad cap,v= .slice ad (Pf bs i).length cap/\Pv w' (λy=>lo<=y/\y<w'.heap.size) (.slice ad (Pf bs i).length cap) (Pf bs i):=by
 obtain ⟨q1,q2⟩:=h.own;rcases q2 with ⟨rfl,q2⟩ | ⟨g,cap,cur,rfl,q3,q4,q5,q6,q7,q8⟩
 ·exact ⟨none,0,by rw [q2],.inl ⟨Yd q2,none,0,by rw [q2]⟩⟩
 refine ⟨_,cap,rfl,?_⟩;by_cases h0:Pf bs i=[]
 ·exact .inl ⟨h0,_,_,by rw [h0];rfl⟩
 have hg:=PV q4;refine .inr ⟨g,0,cap,rfl,h0,q5,λj hj=>⟨⟨by omega,by omega⟩,?_⟩⟩;refine P0 ((hk g (by omega) hg).trans q4) ?_;have h9:cur.toList[j]? =some (.int .i64 (Pf bs i)[j]):=by
  have:=congrArg (λl:List Value=>l[j]?) q8;simp only [ZH] at this;rw [Pc (by omega)] at this;rw [this];simp [hj]
 rw [Rp,R4,<-Nr];exact h9
def Ub (F:Nat)(ao:List Qj):List (List Pt)->List (Pn (F+1))
 | []=> []
 | r::_=>Qi F r.length ao
theorem Nj {t:Tr f}(h:Qx k fs f t=some ao):Rq F k fs f t rows=(false,(List.range rows.length).filter (λr=> !(Py f t).contains r),Ub F ao rows):=by
 unfold Rq;rw [h];cases rows<;>rfl
theorem JR {t:Tr f}(h:Qx k fs f t=none):Rq F k fs f t rows=(true,(List.range rows.length).filter (λr=> !(Py f t).contains r),[]):=by
 unfold Rq;rw [h]
 rfl
theorem UL (h:0<rows.length):Ub F ao rows=Qi F rows[0].length ao:=by
 cases rows with
 | nil=>simp at h
 | cons a r=>rfl
theorem PD.len {n:Nat}:∀{l:List Qj},PD n l->∀x∈l,x.1.length<=l.length
 | a::r,h,x,hx=>by
  rcases Qa.1 hx with rfl | hx
  ·have:=h.2.2.1;rw [Rj];exact this
  have:=PD.len h.1 x hx;rw [Rj];omega
def K5 (F:Nat)(c:Cv F)(w:World)(r:Ending)(w':World):Prop:=Below w.heap.size w w'/\∃ad1 c1 ad2 c2,r= .returned (.agg #[.bool c.1,.slice ad1 c.2.1.length c1,.slice ad2 c.2.2.length c2])/\Pv w' (λy=>w.heap.size<=y/\y<w'.heap.size) (.slice ad1 c.2.1.length c1) c.2.1/\Pl w' (λy=>w.heap.size<=y/\y<w'.heap.size) (.slice ad2 c.2.2.length c2) (c.2.2.map λu=>(⟨F+1,u⟩:Pt))/\YE w' w.heap.size w'.heap.size ad1 c.2.1.length c1 ad2 c.2.2.length c2
theorem N4 {w w6 W3:World}{n:Nat}{bs:List Bool}{dx:Option Addr}{b9:Nat}(c0:Bool)(m:Value)(hC:w.heap.size+3<=Cb)(hb:Below w.heap.size w w6)(hR:w6.heap[w.heap.size+1+1]? =some (.cells #[.bool false,.slice none 0 0,.slice none 0 0] 33 (0,0)))(hc:Cw W3 Cb bs mb n (.slice dx (Pf bs n).length b9) wr)(hk:∀y,Cb<y->y<wr.heap.size->w6.heap[y]? =wr.heap[y]?)(hs:wr.heap.size<=w6.heap.size):
  ∃U,U=((w6.setCell ⟨w.heap.size+1+1,0,none⟩ (.bool c0)).setCell ⟨w.heap.size+1+1,1,none⟩ (.slice dx (Pf bs n).length b9)).setCell ⟨w.heap.size+1+1,2,none⟩ m/\U.heap[w.heap.size+1+1]? =some (.cells #[.bool c0,.slice dx (Pf bs n).length b9,m] 33 (0,0))/\Below w.heap.size w U/\U.heap.size=w6.heap.size/\(∀y,y≠w.heap.size+1+1->U.heap[y]? =w6.heap[y]?)/\Pv U (λy=>w.heap.size<=y/\y<U.heap.size) (.slice dx (Pf bs n).length b9) (Pf bs n)/\∃bi,QG U 1 3 dx (Pf bs n).length b9 bi/\∀b∈bi,Cb<b/\b<wr.heap.size:=by
 have a0:=Q5 (i:=0) (v:= .bool c0) hR;have a1:=Q5 (i:=1) (v:= .slice dx (Pf bs n).length b9) a0;have a2:=Q5 (i:=2) (v:=m) a1;have hsz:(((w6.setCell ⟨w.heap.size+1+1,0,none⟩ (.bool c0)).setCell ⟨w.heap.size+1+1,1,none⟩ (.slice dx (Pf bs n).length b9)).setCell ⟨w.heap.size+1+1,2,none⟩ m).heap.size=w6.heap.size:=by simp [World.setCell]
 have fN:∀y,y≠w.heap.size+1+1->(((w6.setCell ⟨w.heap.size+1+1,0,none⟩ (.bool c0)).setCell ⟨w.heap.size+1+1,1,none⟩ (.slice dx (Pf bs n).length b9)).setCell ⟨w.heap.size+1+1,2,none⟩ m).heap[y]? =w6.heap[y]? :=λy hy=>by
  rw [PX _ _ _ _ hy,PX _ _ _ _ hy,PX _ _ _ _ hy]
 refine ⟨_,rfl,a2,((hb.setCell (p:=⟨w.heap.size+1+1,0,none⟩) (by show w.heap.size<=w.heap.size+1+1;omega) _).setCell (p:=⟨w.heap.size+1+1,1,none⟩) (by show w.heap.size<=w.heap.size+1+1;omega) _).setCell (p:=⟨w.heap.size+1+1,2,none⟩) (by show w.heap.size<=w.heap.size+1+1;omega) _,hsz,fN,?_,?_⟩
 rotate_left
 ·obtain ⟨ad,cap,bp,e,e2,e3⟩:=Yf hc.own;injection e with e1 _ e4;subst e1 e4;refine ⟨bp,e2.on λb hb=> ?_,λb hb=>⟨by have:=(e3 b hb).1;omega,(e3 b hb).2⟩⟩;have:=e3 b hb;exact (fN b (by omega)).trans (hk b (by omega) this.2)
 obtain ⟨ad,cap,e,hn⟩:=hc.nats (lo:=w.heap.size) (λy h1 h2=>(fN y (by omega)).trans (hk y h1 h2)) (by rw [hsz];exact hs) (by omega);injection e with e1 _ e3;subst e1 e3;exact hn
theorem av1 (hF:F<=5001)(t:Tr F)(rows:List (List Pt))(fY:Sm F t)(BY:U9 k fs F t)(hK:KnOk k fs)(oQ:∀r∈Py F t,r<rows.length)(mX:∀ao,Qx k fs F t=some ao->PD (rows.headD []).length ao/\∀s∈ao,s.2.2<=8)
  {w:World}{S:Nat->Prop}{b:Nat}(fa:Option Addr) (fc:Nat) (x rv:Value) (hS:∀b,S b->b<w.heap.size) (hM:PP w b k) (ee:PH w S (.slice fa fs.length fc) fs) (hx:PL w S F x t) (hR:RH w S rv rows) (hl:rows.length<=200) (cj:∀r∈rows,r.length<=16):
  Calls Tryz.prog 33 #[.agg #[.slice fa fs.length fc,.map (some b)],x,rv] w (K5 F (Rq F k fs F t rows) w):=by
 obtain ⟨a,b',pa,pl,pc,ca,cl,cc,ea,el,ec,rfl⟩:=hx.parts;have hW:∃W,W=((w.alloc (Obj.cells #[.slice fa fs.length fc,.map (some b)] 69)).alloc (Obj.cells #[.int .i64 a,.int .i64 b',.slice pa pl pc,.slice ca cl cc,.slice ea el ec] 30)).alloc (Obj.cells #[.bool false,.slice none 0 0,.slice none 0 0] 33)/\Below w.heap.size w W/\W.heap.size=w.heap.size+3/\W.heap[w.heap.size]? =some (.cells #[.slice fa fs.length fc,.map (some b)] 69 (0,0))/\W.heap[w.heap.size+1]? =some (.cells #[.int .i64 a,.int .i64 b',.slice pa pl pc,.slice ca cl cc,.slice ea el ec] 30 (0,0))/\W.heap[w.heap.size+1+1]? =some (.cells #[.bool false,.slice none 0 0,.slice none 0 0] 33 (0,0)):=by
  refine ⟨_,rfl,(((Pb _ _).alloc (P6 _) _).alloc (by simp) _).alloc (by simp;omega) _,by simp,?_,?_,?_⟩
  ·rw [Qq _ _ _ (by simp;omega),Qq _ _ _ (by simp)];exact PF w _
  ·rw [Qq _ _ _ (by simp)];have:=PF (w.alloc (Obj.cells #[.slice fa fs.length fc,.map (some b)] 69)) (Obj.cells #[.int .i64 a,.int .i64 b',.slice pa pl pc,.slice ca cl cc,.slice ea el ec] 30);simpa using this
  have:=PF ((w.alloc (Obj.cells #[.slice fa fs.length fc,.map (some b)] 69)).alloc (Obj.cells #[.int .i64 a,.int .i64 b',.slice pa pl pc,.slice ca cl cc,.slice ea el ec] 30)) (Obj.cells #[.bool false,.slice none 0 0,.slice none 0 0] 33);simpa using this
 obtain ⟨W,hW,an,aO,rk,cW,Av⟩:=hW;have fp:=sv0 W rows.length (by omega);rw [aO] at fp;have aD:∃W1,W1=W.alloc (.cells (bV (List.replicate rows.length false)) 4)/\Below W.heap.size W W1/\W1.heap.size=w.heap.size+4/\W1.heap[w.heap.size+3]? =some (.cells (bV (List.replicate rows.length false)) 4 (0,0)):=⟨_,rfl,(Pb _ _).alloc (P6 _) _,by simp [aO],by have:=PF W (.cells (bV (List.replicate rows.length false)) 4);rwa [aO] at this⟩;obtain ⟨W1,aD,hb1,bH,mC⟩:=aD;rw [<-aD] at fp;have aR:Below w.heap.size w W1:=an.trans (hb1.mono an.size);have CM:=JL F t fY W1 S _ (w.heap.size+3) (List.replicate rows.length false) (λy hy=>by have:=hS y hy;omega) (PL.below (OZ.of aR hS) (λ_ h=>h) F _ _ hx) mC (λr hr=>by rw [Tq];exact oQ r hr) (by rw [Tq];exact hl);rw [Tq] at CM;obtain ⟨fP,ci,rfl,eR⟩:=Pd.open hR;have d0:=P0 (i:=0) ((hb1.block _ (by omega)).trans cW) rfl;have d1:=P0 (i:=1) ((hb1.block _ (by omega)).trans cW) rfl;have d2:=P0 (i:=2) ((hb1.block _ (by omega)).trans cW) rfl;have d3:=P0 (i:=3) ((hb1.block _ (by omega)).trans cW) rfl;have d4:=P0 (i:=4) ((hb1.block _ (by omega)).trans cW) rfl;have nL:=P4 eR;have HX:Hid (∀w2,Kx (w.heap.size+3) W1 w2->w2.heap[w.heap.size+3]? =some (.cells (bV (Qf (List.replicate rows.length false) (Py F t))) 4 (0,0))->∃W3,W3=w2.alloc (.cells #[.bool false,.slice none 0 0,.slice none 0 0] 33)/\w.heap.size+4<=w2.heap.size/\Below w.heap.size w W3/\W3.heap[w.heap.size]? =some (.cells #[.slice fa fs.length fc,.map (some b)] 69 (0,0))/\W3.heap[w.heap.size+1]? =some (.cells #[.int .i64 a,.int .i64 b',.slice pa pl pc,.slice ca cl cc,.slice ea el ec] 30 (0,0))/\W3.heap[w.heap.size+1+1]? =some (.cells #[.bool false,.slice none 0 0,.slice none 0 0] 33 (0,0))/\W3.heap[w.heap.size+3]? =some (.cells (bV (Qf (List.replicate rows.length false) (Py F t))) 4 (0,0))/\Cw W3 w2.heap.size (Qf (List.replicate rows.length false) (Py F t)) (w.heap.size+3) 0 (.slice none 0 0) W3):=λw2 hk2 hm2=>by
  have h4:w.heap.size+4<=w2.heap.size:=by have:=hk2.size;omega
  have hA:∀y,y<w2.heap.size->(w2.alloc (.cells #[.bool false,.slice none 0 0,.slice none 0 0] 33)).heap[y]? =w2.heap[y]? :=λy hy=>Qq _ _ _ hy;have hB:∀y,y<w.heap.size+3->(w2.alloc (.cells #[.bool false,.slice none 0 0,.slice none 0 0] 33)).heap[y]? =W1.heap[y]? :=λy hy=>(hA y (by omega)).trans (hk2.block y (by omega) (by omega));refine ⟨_,rfl,h4,⟨hk2.os.trans aR.os,hk2.tape.trans aR.tape,hk2.output.trans aR.output,by simp;omega,λy hy=>(hB y (by omega)).trans (aR.block y hy)⟩,?_,?_,?_,(hA _ (by omega)).trans hm2,Pb _ _,PF w2 _,U4 _ _ _ _⟩
  ·exact (hB _ (by omega)).trans ((hb1.block _ (by omega)).trans rk)
  ·exact (hB _ (by omega)).trans ((hb1.block _ (by omega)).trans cW)
  exact (hB _ (by omega)).trans ((hb1.block _ (by omega)).trans Av)
 have eO:=Yt fY BY hK hM ee hx hS;have az5:=P4 mX;have Aw:=P4 (FN t rows.length);have dS:(Qf (List.replicate rows.length false) (Py F t)).length=rows.length:=by rw [TX,Tq]
 have F2:=P4 dS;clear fY BY hK hM ee hx hS mX oQ dS aR mC bH hb1 Av cW rk aO an hR eR;have kA:=P4 cj;clear cj aD;generalize hbs:Qf (List.replicate rows.length false) (Py F t)=bs at *
 clear hbs;go_enter Tryz.func33,Tryz.ntmps33
 go_upto_region 1 with fail
 rw [<-hW];clear hW
 go_upto_region 4 with (first | (go_at_call 58;(with_reducible refine Pe CM ?_);rintro e' w2 ⟨rfl,hk2,hm2⟩))
 obtain ⟨W3,eC,h4,hb3,hk3,wC,wI,It,wJ⟩:=HX.out w2 hk2 hm2;rw [<-eC];have H3:=Yt h4 hb3 hk3 wC wI It wJ;clear eC h4 hb3 hk3 wC wI It wJ hk2 hm2 CM HX d0 d1 d2 d3 d4 fp;generalize Hg:w2.heap.size=Cb at *
 clear Hg;obtain ⟨i0,d7,c8,bK,bJ⟩:=info_parts Tryz.info3;go_wp2
 go_loopw [21] (λiv wr=>∃(i:Nat) (v:Value),i<=rows.length/\iv= .int .i64 i/\Hid (Cw W3 Cb bs (w.heap.size+3) i v wr)) (λiv _=>rows.length-(intOf iv).toNat)
 case atStart=>exact ⟨0,_,by omega,by go_num,H3.2.2.2.2.2.2⟩
 obtain ⟨i,v,hi,rfl,HC⟩:=hrel;have Be:w.heap.size+4<=Cb:=H3.1;by_cases ag:i<rows.length
 ·have lD:i<bs.length:=by have:=F2.out;omega
  have q:=P0 ((HC.below.block (w.heap.size+3) (by omega)).trans H3.2.2.2.2.2.1) (OC lD);have i1:(0:Int)<=(i:Int):=by omega
  have i2:(i:Int)<(rows.length:Int):=by omega
  cases hb:bs[i] with
  | true=>
   rw [hb] at q;have bx:=P4 (HC.skip lD hb);clear hb;go_wp2;exact ⟨⟨i+1,v,ag,by go_num,bx.out⟩,by simp [intOf];omega⟩
  | false=>
   rw [hb] at q;have dA:=Qh hb lD;have c1:=P0 (i:=1) HC.blk rfl;have hown:=HC.own;have aT:=HC.lt;have dM:(Pf bs i).length<=200:=by
    have:(Pf bs i).length<=i:=by
     unfold Pf;exact PZ (T8 _ _) (by simp)
    omega
   clear hb
   go_wp2_with (at_builtin;refine wpList_append_lies _ rfl _ _ 26 rfl (Cb+1) 3 i0 _ 1 8 Tryz.underlying26 d7 c8 bK bJ rfl (by decide) _ _ _ rfl (hown.alloc _) ⟨wr.heap.size,0,none⟩ 1 1 [.int .i64 i] rfl rfl (World.news_of_block (Qn wr _)) (by intro u hu;simp at hu;subst hu;rfl) (by omega) (by unfold maxLen;omega) (by omega) (by simp;omega) (wr.heap.size+1) (by simp) ?_;intro g5 cap5 w5 b8 bC cr dr;obtain ⟨hblk5,uS⟩:=HC.put dA.2 dA.1 b8 bC;have y1:=P0 (i:=1) hblk5 rfl;have z1:=Pp (o:=1) hblk5)
   exact ⟨⟨i+1,_,ag,by go_num,uS⟩,by simp [intOf];omega⟩
 obtain rfl:i=rows.length:=by omega
 have kG:=eO.out;have az:Below w.heap.size w wr:=H3.2.1.trans (HC.below.mono (by omega));have fh:OZ S w wr:=OZ.of az kG.2.2.2.2.2.2;have CF:=KD kG.2.2.1 F hF t kG.1 kG.2.1 wr S _ fa fc b (λy hy=>by have:=kG.2.2.2.2.2.2 y hy;have:=az.size;omega) (kG.2.2.2.1.on (az.block b (Mv.lt kG.2.2.2.1))) (kG.2.2.2.2.1.on fh) (PL.below fh (λ_ h=>h) F _ _ kG.2.2.2.2.2.1);have bg:=HC.lt;have e1:=(HC.below.block w.heap.size (by omega)).trans H3.2.2.1;have e2:=(HC.below.block (w.heap.size+1) (by omega)).trans H3.2.2.2.1;have e3:=(HC.below.block (w.heap.size+1+1) (by omega)).trans H3.2.2.2.2.1;have k0:=P0 (i:=0) e1 rfl;have k1:=P0 (i:=1) e1 rfl;have d0:=P0 (i:=0) e2 rfl;have d1:=P0 (i:=1) e2 rfl;have d2:=P0 (i:=2) e2 rfl;have d3:=P0 (i:=3) e2 rfl;have d4:=P0 (i:=4) e2 rfl;have bD:Hid (Below w.heap.size w wr/\Cb<wr.heap.size/\wr.heap[w.heap.size+1+1]? =some (.cells #[.bool false,.slice none 0 0,.slice none 0 0] 33 (0,0))/\wr.heap[Cb]? =some (.cells #[.bool false,v,.slice none 0 0] 33 (0,0))):=⟨az,bg,e3,HC.blk⟩;obtain ⟨dx,b9,rfl⟩:∃ad cap,v= .slice ad (Pf bs rows.length).length cap:=by
  obtain ⟨ad,cap,e,_⟩:=HC.nats (w':=wr) (lo:=0) (λ_ _ _=>rfl) (P6 _) (TD _);exact ⟨ad,cap,e⟩
 clear kG az fh bg e1 e2 e3;cases hres:Qx k fs F t with
 | none=>
  rw [hres] at CF;have uI:Calls Tryz.prog 59 #[.agg #[.slice fa fs.length fc,.map (some b)],.agg #[.int .i64 a,.int .i64 b',.slice pa pl pc,.slice ca cl cc,.slice ea el ec]] wr λr w'=>r= .returned (.tuple #[.slice none 0 0,.bool false])/\Below wr.heap.size wr w':=Pe CF λr w' h=>by
   obtain ⟨hb,⟨_,h2⟩ | ⟨y,v,l,h2,_⟩⟩:=h
   ·exact ⟨h2,hb⟩
   cases h2
  have wK:Hid (Rq F k fs F t rows=(true,Pf bs rows.length,[])):=by
   show _=_;rw [JR hres,Aw.out]
  clear CF hres
  go_upto_region 11 with (first | (go_at_call 59;(with_reducible refine Pe uI ?_);rintro e' w4 ⟨rfl,hb4⟩))
  have oR:=(hb4.block Cb bD.2.1).trans bD.2.2.2;have gR:=(hb4.block (w.heap.size+1+1) (by have:=bD.2.1;omega)).trans bD.2.2.1;have y0:=P0 (i:=0) oR rfl;have z0:=Pp (o:=0) oR;have dF:=Q5 (i:=0) (v:= .bool true) oR;have bY:Below w.heap.size w w4:=bD.1.trans (hb4.mono bD.1.size);obtain ⟨W5,cQ⟩:∃W5,W5=w4.setCell ⟨Cb,0,none⟩ (.bool true):=⟨_,rfl⟩;rw [<-cQ] at dF;have iI:W5.heap.size=w4.heap.size:=by rw [cQ];simp [World.setCell]
  have gS:∀y,y≠Cb->W5.heap[y]? =w4.heap[y]? :=λy hy=>by rw [cQ];exact PX _ _ _ _ hy
  obtain ⟨U,hU,aG,aZ,bj,aP,io,bi,iJ,fQ⟩:=N4 (w:=w) (wr:=wr) (w6:=W5) true (.slice none 0 0) (by omega) (by rw [cQ];exact bY.setCell (p:=⟨Cb,0,none⟩) (by show w.heap.size<=Cb;omega) _) ((gS _ (by omega)).trans gR) HC.out (λy h1 h2=>(gS y (by omega)).trans (hb4.block y h2)) (by rw [iI];exact hb4.size);have r0:=P0 (i:=0) ((gS _ (by omega)).trans gR) rfl;have r1:=P0 (i:=1) ((gS _ (by omega)).trans gR) rfl;have r2:=P0 (i:=2) ((gS _ (by omega)).trans gR) rfl;have f0:=Pp (o:=0) ((gS _ (by omega)).trans gR);have f1:=Pp (o:=1) ((gS _ (by omega)).trans gR);have f2:=Pp (o:=2) ((gS _ (by omega)).trans gR);have t0:=P0 (i:=0) dF rfl;have t1:=P0 (i:=1) dF rfl;have t2:=P0 (i:=2) dF rfl;have kH:Hid (Below w.heap.size w U/\Pv U (λy=>w.heap.size<=y/\y<U.heap.size) (.slice dx (Pf bs rows.length).length b9) (Pf bs rows.length)/\YE U w.heap.size U.heap.size dx (Pf bs rows.length).length b9 none 0 0):=⟨aZ,io,tc0 iJ λb hb=>by have:=fQ b hb;have:=hb4.size;omega⟩;clear iJ fQ;clear bY iI gS aZ bj aP io oR gR hb4 k0 k1 d0 d1 d2 d3 d4 dF;generalize hL:Pf bs rows.length=L at *
  clear hL
  go_upto_region 15 with fail
  rw [<-cQ];clear cQ y0 z0;go_wp2;rw [<-hU];have u0:=P0 (i:=0) aG rfl;have u1:=P0 (i:=1) aG rfl;have u2:=P0 (i:=2) aG rfl;refine Qv (v:= .agg #[.bool true,.slice dx L.length b9,.slice none 0 0]) (by simp [results,Tryz.results33,go_sem,u0,u1,u2]) rfl ?_;rw [wK.out];exact ⟨kH.1,dx,b9,none,0,rfl,kH.2.1,.inl ⟨rfl,none,0,rfl⟩,kH.2.2⟩
 | some ao=>
  rw [hres] at CF;have uI:Calls Tryz.prog 59 #[.agg #[.slice fa fs.length fc,.map (some b)],.agg #[.int .i64 a,.int .i64 b',.slice pa pl pc,.slice ca cl cc,.slice ea el ec]] wr λr w'=>∃v l,r= .returned (.tuple #[v,.bool true])/\Below wr.heap.size wr w'/\l.map (·.1)=ao/\WayAt w' S wr.heap.size v l:=Pe CF λr w' h=>by
   obtain ⟨hb,⟨h2,_⟩ | ⟨y',v,l,h2,h3,h4,h5⟩⟩:=h
   ·cases h2
   obtain rfl:=Qs h2;exact ⟨v,l,h3,hb,h4,h5⟩
  have Iu:=az5.out ao hres;have qT:=Zi F t ao hres;have Iv:=Qh Iu qT;have wK:Hid (Rq F k fs F t rows=(false,Pf bs rows.length,Ub F ao rows)):=by
   show _=_;rw [Nj hres,Aw.out]
  clear CF hres Iu qT;by_cases dP:rows=[]
  ·have cH:rows.length=0:=by rw [dP];rfl
   have uT:Hid (Rq F k fs F t rows=(false,Pf bs rows.length,[])):=by
    show _=_;rw [wK.out];subst dP
    rfl
   have iw:=P4 cH;clear dP cH wK
   go_upto_region 11 with (first | (go_at_call 59;(with_reducible refine Pe uI ?_);rintro e' w4 ⟨v4,l,rfl,hb4,hl4,hwa4⟩))
   have dF:=(hb4.block Cb bD.2.1).trans bD.2.2.2;have gR:=(hb4.block (w.heap.size+1+1) (by have:=bD.2.1;omega)).trans bD.2.2.1;have bY:Below w.heap.size w w4:=bD.1.trans (hb4.mono bD.1.size);obtain ⟨U,hU,aG,aZ,bj,aP,io,bi,iJ,fQ⟩:=N4 (w:=w) (wr:=wr) (w6:=w4) false (.slice none 0 0) (by omega) bY gR HC.out (λy h1 h2=>hb4.block y h2) hb4.size;have r0:=P0 (i:=0) gR rfl;have r1:=P0 (i:=1) gR rfl;have r2:=P0 (i:=2) gR rfl;have f0:=Pp (o:=0) gR;have f1:=Pp (o:=1) gR;have f2:=Pp (o:=2) gR;have t0:=P0 (i:=0) dF rfl;have t1:=P0 (i:=1) dF rfl;have t2:=P0 (i:=2) dF rfl;have kH:Hid (Below w.heap.size w U/\Pv U (λy=>w.heap.size<=y/\y<U.heap.size) (.slice dx (Pf bs rows.length).length b9) (Pf bs rows.length)/\YE U w.heap.size U.heap.size dx (Pf bs rows.length).length b9 none 0 0):=⟨aZ,io,tc0 iJ λb hb=>by have:=fQ b hb;have:=hb4.size;omega⟩;clear iJ fQ;clear bY aZ bj aP io gR hb4 k0 k1 d0 d1 d2 d3 d4 dF hl4 hwa4;generalize hL:Pf bs rows.length=L at *
   clear hL;have hz:¬((0:Int)<(rows.length:Int)):=by have:=iw.out;omega
   go_wp2;rw [<-hU];have u0:=P0 (i:=0) aG rfl;have u1:=P0 (i:=1) aG rfl;have u2:=P0 (i:=2) aG rfl;refine Qv (v:= .agg #[.bool false,.slice dx L.length b9,.slice none 0 0]) (by simp [results,Tryz.results33,go_sem,u0,u1,u2]) rfl ?_;rw [uT.out];exact ⟨kH.1,dx,b9,none,0,rfl,kH.2.1,.inl ⟨rfl,none,0,rfl⟩,kH.2.2⟩
  have cH:0<rows.length:=Tk.2 dP;obtain ⟨rg,ro,rfl,fF,eR⟩:=nL.out dP;obtain ⟨F3,oS,ju,q0,_⟩:=eR 0 cH;have rr:rows.headD []=rows[0]:=by
   cases rows with
   | nil=>simp at cH
   | cons a r=>rfl
  have uT:Hid (Rq F k fs F t rows=(false,Pf bs rows.length,Qi F rows[0].length ao)):=by
   show _=_;rw [wK.out,UL cH]
  have h16:=kA.out rows[0] (Px cH);have gq:Hid (∀w5,Below wr.heap.size wr w5->w5.cell? ⟨rg,ro,none⟩=some (.slice oS rows[0].length ju)):=λw5 hb5=>by
   have h1:w.cell? ⟨rg,ro,none⟩=some (.slice oS rows[0].length ju):=by simpa using q0
   have hlt:=eO.2.2.2.2.2.2 rg F3;exact ((bD.1.trans (hb5.mono bD.1.size)).cell (p:=⟨rg,ro,none⟩) hlt).trans h1
  have kI:Hid ((PD rows[0].length ao/\∀s∈ao,s.2.2<=8)/\ao.length<=F):=by
   have:=Iv.out;rw [rr] at this;exact this
  have HS:Hid (∀x,S x->x<wr.heap.size):=λy hy=>by have:=eO.2.2.2.2.2.2 y hy;have:=bD.1.size;omega
  clear dP wK eR q0 rr Iv;generalize rows[0].length=n0 at *
  go_upto_region 11 with (first | (go_at_call 59;(with_reducible refine Pe uI ?_);rintro e' w4 ⟨v4,l,rfl,hb4,hl4,hwa4⟩))
  have mr:l.length=ao.length:=by rw [<-hl4,Qb]
  have cn7:=au1 (w:=w4) (S:=S) (lo:=wr.heap.size) n0 (by omega) HS.out hb4.size hwa4 (by have:=kI.out.2;omega) (by rw [hl4];exact kI.out.1.1);have q:=gq.out w4 hb4;have H4:=Ro hb4 hl4 hwa4;have i1:(0:Int)<(rows.length:Int):=by omega
  clear hb4 hl4 hwa4 mr uI k0 k1 d0 d1 d2 d3 d4
  go_upto_region 15 with (first | (go_at_call 60;(with_reducible refine Pe cn7 ?_);rintro e' w5 ⟨Lb,rfl,hLb,hmi,hs45⟩;have dF:=(hmi.below.block Cb (by have:=bD.2.1;omega)).trans ((H4.1.block Cb bD.2.1).trans bD.2.2.2);have y2:=P0 (i:=2) dF rfl;have z2:=Pp (o:=2) dF))
  have h4:=H4.out;have aW:=bD.out;have oT:=Q5 (i:=2) (v:= .slice (some ⟨Lb,0,none⟩) n0 n0) dF;have hb5:Below wr.heap.size wr w5:=h4.1.trans hmi.below;have eH:=(hb5.block (w.heap.size+1+1) (by omega)).trans aW.2.2.1;have Ax:Below w.heap.size w w5:=aW.1.trans (hb5.mono aW.1.size);have ux:Mw w4 wr.heap.size Lb n0 l:=⟨by rw [h4.2.1];exact kI.out.1.1,λx hx=>(h4.2.2.args x hx).imp_right λ⟨B,h1,h2,h3,h4,_⟩=>⟨B,h1,h2,h3,h4⟩,h4.2.2.apart,hLb,h4.1.size⟩;have hpt:=XT (D:=F) (S':=λy=>wr.heap.size<=y/\y<w5.heap.size) ux hmi (λy h1 h2=>⟨h1,h2⟩) (λx hx=>by
   have hq:=kI.out;have:=hq.1.1.len x.1 (by rw [<-h4.2.1];exact PI.2 ⟨x,hx,rfl⟩);omega) (λx hx=>kI.out.1.2 x.1 (by rw [<-h4.2.1];exact PI.2 ⟨x,hx,rfl⟩)) h4.2.2.name
  rw [h4.2.1] at hpt;have Iw:=YB (D:=F) ux hmi (by omega) (λx hx=>by
   have hq:=kI.out;have:=hq.1.1.len x.1 (by rw [<-h4.2.1];exact PI.2 ⟨x,hx,rfl⟩);omega) (λx hx=>kI.out.1.2 x.1 (by rw [<-h4.2.1];exact PI.2 ⟨x,hx,rfl⟩))
  obtain ⟨W5,cQ⟩:∃W5,W5=w5.setCell ⟨Cb,2,none⟩ (.slice (some ⟨Lb,0,none⟩) n0 n0):=⟨_,rfl⟩;rw [<-cQ] at oT⊢;have iI:W5.heap.size=w5.heap.size:=by rw [cQ];simp [World.setCell]
  have gS:∀y,y≠Cb->W5.heap[y]? =w5.heap[y]? :=λy hy=>by rw [cQ];exact PX _ _ _ _ hy
  have fA:=(gS (w.heap.size+1+1) (by omega)).trans eH;obtain ⟨U,hU,aG,aZ,bj,aP,io,bi,iJ,fQ⟩:=N4 (w:=w) (wr:=wr) (w6:=W5) false (.slice (some ⟨Lb,0,none⟩) n0 n0) (by omega) (by rw [cQ];exact Ax.setCell (p:=⟨Cb,2,none⟩) (by show w.heap.size<=Cb;omega) _) fA HC.out (λy h1 h2=>(gS y (by omega)).trans (hb5.block y h2)) (by rw [iI];exact hb5.size);have Ix:Pl U (λy=>w.heap.size<=y/\y<U.heap.size) (.slice (some ⟨Lb,0,none⟩) n0 n0) ((Qi F n0 ao).map λu=>(⟨F+1,u⟩:Pt)):=(hpt.on (λy hy=>by
   have h1:=aW.2.1;rw [aP y (by omega),gS y (by omega)])).up λy hy=>⟨by have:=aW.1.size;omega,by omega⟩
  have Ay:YE U w.heap.size U.heap.size dx (Pf bs rows.length).length b9 (some ⟨Lb,0,none⟩) n0 n0:=by
   obtain ⟨bm,o1,o2,o3⟩:=Iw;have h1:=aW.2.1;have h2:=aW.1.size;have h3:=h4.1.size;refine ⟨bi,bm,F+1,iJ,Ux.on _ _ _ o1 λb hb=> ?_,?_,λb hb=> ?_⟩
   ·have:=o3 b hb;rw [aP b (by omega),gS b (by omega)]
   ·rw [S7];refine ⟨tb0 iJ,o2,λa ha b hb e=> ?_⟩;have:=fQ a ha;have:=o3 b hb;omega
   rcases PE.1 hb with hb | hb
   ·have:=fQ b hb;omega
   have:=o3 b hb;omega
  have r0:=P0 (i:=0) fA rfl;have r1:=P0 (i:=1) fA rfl;have r2:=P0 (i:=2) fA rfl;have f0:=Pp (o:=0) fA;have f1:=Pp (o:=1) fA;have f2:=Pp (o:=2) fA;have t0:=P0 (i:=0) oT rfl;have t1:=P0 (i:=1) oT rfl;have t2:=P0 (i:=2) oT rfl;have kH:=S6 aZ io Ix Ay;clear iJ fQ Ay Iw;clear Ax iI gS aZ bj aP io eH fA hb5 dF oT ux hpt Ix h4 aW cQ hmi hLb hs45 q y2 z2;generalize hL:Pf bs rows.length=L at *
  clear hL;go_wp2;rw [<-hU];have u0:=P0 (i:=0) aG rfl;have u1:=P0 (i:=1) aG rfl;have u2:=P0 (i:=2) aG rfl;refine Qv (v:= .agg #[.bool false,.slice dx L.length b9,.slice (some ⟨Lb,0,none⟩) n0 n0]) (by simp [results,Tryz.results33,go_sem,u0,u1,u2]) rfl ?_;rw [uT.out];have e:(Qi F n0 ao).length=n0:=by simp [Qi]
  refine ⟨kH.out.1,dx,b9,some ⟨Lb,0,none⟩,n0,by rw [e],kH.out.2.1,?_,?_⟩
  ·show Pl U _ (.slice (some ⟨Lb,0,none⟩) (Qi F n0 ao).length n0) _;rw [e];exact kH.2.2.1
  show YE U _ _ _ _ _ _ (Qi F n0 ao).length _;rw [e];exact kH.2.2.2
end
