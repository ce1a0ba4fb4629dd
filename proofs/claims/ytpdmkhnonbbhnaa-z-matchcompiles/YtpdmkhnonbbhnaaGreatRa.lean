import Derived.Test.YtpdmkhnonbbhnaaGreatHp
import Derived.Deep.AppendLies
import Derived.Deep.RegionHeld3
import Derived.Lib.AppendZeros
namespace Go.Proofs.YtpdmkhnonbbhnaaGreat
open Go.RowKit
set_option linter.unusedSimpArgs false
variable {w w':World}{S S' Z:Nat->Prop}{e B t:Nat}{v:Value}{bX:List (List Value)}{cs:List Value}
structure Elt (α:Type) where
 k:Nat
 C:World->(Nat->Prop)->List Value->α->Prop
 len:∀{w:World}{S:Nat->Prop}{cs:List Value}{x:α},C w S cs x->cs.length=k
 one:∀{w:World}{S:Nat->Prop}{cs:List Value}{x:α},C w S cs x->∀u∈cs,u.oneCell'=true
 on:∀{w w':World}{S S':Nat->Prop}{cs:List Value}{x:α},OZ S w w'->(∀b,S b->S' b)->C w S cs x->C w' S' cs x
structure Ty (t e k b:Nat):Prop where
 slice:Tryz.prog.underlying t=some (.slice e)
 info:∃(i:TypeInfo) (z:Value),Tryz.prog.info? e=some i/\i.zero=some z/\i.size=k/\i.bytes=b/\z.cells.size=k
 pos:0<k
 small:b<=1000
def Sy {α:Type}(E:Elt α)(w:World)(S:Nat->Prop)(bX:List (List Value))(l:List α):Prop:=bX.length=l.length/\∀i (h:i<bX.length) (h':i<l.length),E.C w S bX[i] l[i]
theorem Sy.nil {α:Type}(E:Elt α)(w:World)(S:Nat->Prop):Sy E w S [] []:=⟨rfl,λ_ h=>by simp at h⟩
theorem Sy.on {α:Type}{E:Elt α}{l:List α}(h:Sy E w S bX l)(hk:OZ S w w')(hS:∀b,S b->S' b):Sy E w' S' bX l:=⟨h.1,λi a b=>E.on hk hS (h.2 i a b)⟩
theorem Sy.append {α:Type}{E:Elt α}{wg:List (List Value)}{l m:List α}(h:Sy E w S bX l)(k:Sy E w S wg m):Sy E w S (bX++wg) (l++m):=by
 have h1:=h.1;have k1:=k.1;refine ⟨by simp [h1,k1],λi a b=> ?_⟩;rcases Sk i bX.length with hi | hi
 ·rw [WO hi,WO (by omega)];exact h.2 i _ _
 have e:(l++m)[i]=m[i-bX.length]'(by rw [QP] at b;omega):=by
  rw [WN (by omega)]
  congr 1
  omega
 rw [WN hi,e];exact k.2 _ _ _
theorem Sy.one {α:Type}{E:Elt α}{x:α}(h:E.C w S cs x):Sy E w S [cs] [x]:=⟨rfl,λi a b=>by
 obtain rfl:i=0:=by simpa using a
 exact h⟩
theorem Sy.lens {α:Type}{E:Elt α}{l:List α}(h:Sy E w S bX l):∀c∈bX,c.length=E.k:=by
 intro c hc;obtain ⟨i,hi,rfl⟩:=RO hc;exact E.len (h.2 i hi (by have:=h.1;omega))
theorem Sy.ones {α:Type}{E:Elt α}{l:List α}(h:Sy E w S bX l):∀u∈bX.flatten,u.oneCell'=true:=by
 intro u hu;obtain ⟨c,hc,hu⟩:=RF.1 hu;obtain ⟨i,hi,rfl⟩:=RO hc;exact E.one (h.2 i hi (by have:=h.1;omega)) u hu
theorem KR {k:Nat}:∀(bX:List (List Value)),(∀c∈bX,c.length=k)->bX.flatten.length=bX.length*k
 | [],_=>by simp
 | a::r,h=>by
  rw [U3,QP,KR r λc hc=>h c (by simp [hc]),h a (by simp),Rj,TM];omega
theorem Ok {k:Nat}:∀(bX:List (List Value)),(∀c∈bX,c.length=k)->∀j c (hj:j<bX.length),c<k->bX.flatten[j*k+c]? =bX[j][c]?
 | a::r,h,0,c,_,hc=>by
  rw [U3,Xo (by rw [h a (by simp)];omega)];simp
 | a::r,h,j+1,c,hj,hc=>by
  have ha:=h a (by simp);have e:(j+1)*k+c=a.length+(j*k+c):=by rw [ha,TM];omega
  rw [U3,e,WS (by omega),M',Ok r (λc hc=>h c (by simp [hc])) j c (by simpa using hj) hc]
  rfl
def PC {α:Type}(E:Elt α)(w:World)(Z S:Nat->Prop)(v:Value)(l:List α):Prop:=Pd E.k (λg o x=>Z g/\∃cs,E.C w S cs x/\∀j,j<E.k->w.cell? ⟨g,o+j,none⟩=cs[j]?) v l
theorem PC.on {α:Type}{E:Elt α}{Z':Nat->Prop}{l:List α}(h:PC E w Z S v l)(hz:OZ Z w w')(hk:OZ S w w')(hZ:∀b,Z b->Z' b)(hS:∀b,S b->S' b):PC E w' Z' S' v l:=
 h.mono λg o _ _ ⟨h1,cs,h2,h3⟩=>⟨hZ _ h1,cs,E.on hk hS h2,λj hj=>(hz.cell (p:=⟨g,o+j,none⟩) h1).trans (h3 j hj)⟩
theorem PC.cells {α:Type}{E:Elt α}{l:List α}(hp:0<E.k)(h:PC E w Z S v l):∃ad cap bX,v= .slice ad l.length cap/\Sy E w S bX l/\(l≠[]->∃g o,ad=some ⟨g,o,none⟩/\Z g/\l.length<=cap/\∀j u,bX.flatten[j]? =some u->w.cell? ⟨g,o+j,none⟩=some u):=by
 rcases h with ⟨rfl,ad,cap,rfl⟩ | ⟨g,o,cap,rfl,h0,hc,h⟩
 ·exact ⟨ad,cap,[],rfl,Sy.nil _ _ _,λh=>absurd rfl h⟩
 obtain ⟨f,hf⟩:=Og (λj:Fin l.length=>(h j.1 j.2).2);have aT:Sy E w S (List.ofFn f) l:=⟨by simp,λi a b=>by
  rw [Ym];exact (hf ⟨i,b⟩).1⟩
 refine ⟨_,cap,List.ofFn f,rfl,aT,λ_=>⟨g,o,rfl,?_,hc,λj u hu=> ?_⟩⟩
 ·cases l with
  | nil=>exact absurd rfl h0
  | cons a r=>exact (h 0 (by simp)).1
 have aA:=KR _ aT.lens;have hj:j<l.length*E.k:=by
  have:=(Tt.1 hu).1;rw [aA,aT.1] at this;exact this
 have hq:j / E.k<l.length:=Nat.div_lt_of_lt_mul (by rw [Nat.mul_comm];exact hj);have hr:j % E.k<E.k:=Nat.mod_lt _ hp;have he:j=j / E.k*E.k+j % E.k:=by rw [Nat.mul_comm];exact (Nat.div_add_mod j E.k).symm
 have hg:=Ok _ aT.lens (j / E.k) (j % E.k) (by rw [aT.1];exact hq) hr;rw [<-he,hu,Ym] at hg;have h2:=(hf ⟨j / E.k,hq⟩).2 (j % E.k) hr;have cJ:o+j=o+j / E.k*E.k+j % E.k:=by rw [YQ,<-he]
 rw [cJ];exact h2.trans hg.symm
structure Own {α:Type}(E:Elt α)(e B:Nat)(w:World)(S:Nat->Prop)(v:Value)(l:List α):Prop where
 row:∃bX,Sy E w S bX l/\w.ownsRow B e E.k v l.length bX.flatten
 out:∀b,S b->v.ownBlock≠some b
theorem Own.nil {α:Type}(E:Elt α)(e B:Nat)(w:World)(S:Nat->Prop):Own E e B w S (.slice none 0 0) ([]:List α):=⟨⟨[],Sy.nil _ _ _,U4 _ _ _ _⟩,λ_ _ h=>by cases h⟩
theorem Own.lt {α:Type}{E:Elt α}{l:List α}(h:Own E e B w S v l):∀g,v.ownBlock=some g->B<=g/\g<w.heap.size:=by
 obtain ⟨bX,_,h2⟩:=h.row;exact h2.lt
theorem Own.on {α:Type}{E:Elt α}{l:List α}(h:Own E e B w S v l)(hk:OZ S w w')(hb:∀g,v.ownBlock=some g->w'.heap[g]? =w.heap[g]?):Own E e B w' S v l:=by
 obtain ⟨bX,h1,h2,h3⟩:=h.row;refine ⟨⟨bX,h1.on hk λ_ h=>h,h2,?_⟩,h.out⟩;rcases h3 with h3 | ⟨g,cap,cur,rfl,h4,h5,h6⟩
 ·exact .inl h3
 exact .inr ⟨g,cap,cur,rfl,h4,(hb g rfl).trans h5,h6⟩
theorem Own.up {α:Type}{E:Elt α}{l:List α}(h:Own E e B w S v l)(hS:∀b,S b->S' b)(ho:∀b,S' b->v.ownBlock≠some b):Own E e B w S' v l:=by
 obtain ⟨bX,h1,h2⟩:=h.row;exact ⟨⟨bX,h1.on (OZ.refl _ _) hS,h2⟩,ho⟩
theorem Own.len {α:Type}{E:Elt α}{l:List α}(h:Own E e B w S v l):∃ad cap,v= .slice ad l.length cap:=by
 obtain ⟨bX,_,_,⟨h1,h2⟩ | ⟨g,cap,cur,rfl,_⟩⟩:=h.row
 ·exact ⟨none,0,by rw [h1,h2]⟩
 exact ⟨_,cap,rfl⟩
theorem Own.rowE {α:Type}{E:Elt α}{l:List α}(h:Own E e B w S v l):PC E w (λy=>v.ownBlock=some y) S v l:=by
 obtain ⟨bX,h1,h2⟩:=h.row;by_cases hl:l=[]
 ·obtain ⟨ad,cap,hv⟩:=h.len;exact .inl ⟨hl,ad,cap,by rw [hv,hl];rfl⟩
 rcases id h2.2 with ⟨_,h3⟩ | ⟨g,cap,cur,rfl,h4,h5,h6,_⟩
 ·exact absurd (Up.1 h3) hl
 refine .inr ⟨g,0,cap,rfl,hl,h6,λj hj=>⟨rfl,bX[j]'(by rw [h1.1];exact hj),h1.2 j _ hj,λc hc=> ?_⟩⟩;rw [<-Ok bX h1.lens j c (by rw [h1.1];exact hj) hc,Rp];refine h2.cellAt (j*E.k+c) ?_;have:(j+1)*E.k<=l.length*E.k:=ZE _ hj;rw [TM] at this;omega
theorem Mg {base ty n size:Nat}{i:TypeInfo}(ht:Tryz.prog.underlying t=some (.slice e))(hi:Tryz.prog.info? e=some i){v:Value}{xs:List Value}(hown:w.ownsRow base e size v n xs)(ad:Option Addr)(c:Nat):
  (Builtin.append_ #[t,t] ty #[v,.slice ad 0 c]).run Tryz.prog w= .ok v w:=by
 have yF:∀a,(loadCells a 0).run Tryz.prog w= .ok #[] w:=λa=>by simp [loadCells,loadCellsFrom]
 rcases hown.2 with ⟨rfl,rfl⟩ | ⟨g,cap,cur,rfl,_,_,iY,_⟩
 ·cases ad<;>simp [yF,Builtin.append_,NC ht,sizeOf,typeInfo,hi,Builtin.lenOf,Builtin.firstCells]
 cases ad<;>simp [yF,Builtin.append_,NC ht,sizeOf,typeInfo,hi,Builtin.lenOf,Builtin.firstCells,iY,storeCells]
theorem NT {α:Type}{E:Elt α}{al:Array Oper}{rest:List Oper}{o:Oper}{a:Act}{Q:Exit->Act->World->Prop}{b:Nat}(T:Ty t e E.k b)(ez:o.guard=none)(s x:Operand)
  (ho:o.op= .call {callee:= .builtin .append,args:= #[s,x],argTypes:= #[t,t]}) {v u:Value}{l m:List α}(hs:a.eval s=v) (hown:Own E e B w S v l) (hx:a.eval x=u) (hm:PC E w Z S u m) (hl:l.length+m.length<=10000000) (hB:B<=w.heap.size) (hS:∀y,S y->y<w.heap.size)
  (h:∀v' w',Own E e B w' S v' (l++m)->Below B w w'->(∀y,y<w.heap.size->v.ownBlock≠some y->w'.heap[y]? =w.heap[y]?)->(v'.ownBlock=v.ownBlock\/∃g,v'.ownBlock=some g/\w.heap.size<=g)->wpList Tryz.prog al Q rest (a.put o.dst v') w'):wpList Tryz.prog al Q (o::rest) a w:=by
 obtain ⟨bX,aT,pO⟩:=hown.row;obtain ⟨i,z,hi,hz,hk,pw,px⟩:=T.info;obtain ⟨ad,cap,wg,rfl,qH,gd⟩:=hm.cells T.pos;by_cases h0:m=[]
 ·subst h0;have hr:=Mg (t:=t) (ty:=o.type) T.slice hi pO ad cap;refine Lib.wpList_append_run w ez s x t t ho _ _ hs hx _ _ hr ?_;refine h v w (by rw [SH];exact hown) (Pb _ _) (λ_ _ _=>rfl) (.inl rfl)
 obtain ⟨g,o',rfl,_,aj7,hc⟩:=gd h0;have ax4:0<m.length:=Tk.2 h0;have hsm:=T.small;have aY:wg.flatten.length=m.length*E.k:=by rw [KR _ qH.lens,qH.1]
 have du:(l.length+m.length)*b<=140737488355328:=by
  have:=KH hl hsm;omega
 refine wpList_append_lies w ez s x t ho B e i z E.k b T.slice hi hz hk pw px T.pos v l.length bX.flatten hs pO ⟨g,o',none⟩ m.length cap wg.flatten hx aY (λj u hu=>by
  have h:=hc j u hu;by_cases e:j=0
  ·subst e;simpa [Addr.add] using h
  simpa [Addr.add,e] using h) qH.ones ax4 (by unfold maxLen;omega) du hB _ rfl ?_
 intro g' cap' w' h1 h2 h3 h4;have bU:OZ S w w':=λy hy=>h2.block y (hS y hy) λe=>hown.out y hy e.symm;refine h _ w' ⟨⟨bX++wg,(aT.on bU λ_ h=>h).append (qH.on bU λ_ h=>h),?_⟩,λy hy e=> ?_⟩ ((Pb B w).grown h2 hB λk hk=>(hown.lt k hk).1) (λy hy am=>h2.block y hy λe=>am e.symm) ?_
 ·rw [Tu,QP];exact h1
 ·injection e with e;rcases h3 with h3 | h3
  ·exact hown.out y hy (by rw [h3];exact congrArg some e)
  have:=hS y hy;have:g'=y:=e;omega
 rcases h3 with h3 | h3
 ·exact .inl (by rw [h3];rfl)
 exact .inr ⟨g',rfl,by omega⟩
theorem PC.new {α:Type}{E:Elt α}{T:Nat}{x:α}{cap:Nat}(h:E.C w S cs x)(hT:w.heap[T]? =some (.cells cs.toArray e (0,0)))(hc:1<=cap):PC E w (λy=>y=T) S (.slice (some ⟨T,0,none⟩) 1 cap) [x]:=by
 refine .inr ⟨T,0,cap,rfl,by simp,hc,λj hj=> ?_⟩;obtain rfl:j=0:=by simpa using hj
 refine ⟨rfl,cs,h,λj hj=> ?_⟩;have hl:=E.len h;unfold World.cell?;rw [hT];simp
