import Derived.Test.YtpdmkhnonbbhnaaGreatSh
import Derived.Test.YtpdmkhnonbbhnaaGreatWi
namespace Go.Proofs.YtpdmkhnonbbhnaaGreat
open Go.RowKit Go.Maps Go.Sort
set_option maxHeartbeats 8000000
set_option maxRecDepth 100000
set_option linter.unusedSimpArgs false
def TE (x y:Int):Int:=if x<y then-1 else if y<x then 1 else 0
theorem mu0 (x y:Int)(w:World):Calls Tryz.prog 89 #[.int .i64 x,.int .i64 y] w λr w'=>r= .returned (.int .i64 (TE x y))/\w'=w:=by
 have e1:(x !=x)=false:=by simp
 have e2:(y !=y)=false:=by simp
 unfold TE;by_cases h1:x<y
 ·rw [Pc h1];go_enter Tryz.func89,Tryz.ntmps89;go_wp2;go_ret;exact ⟨rfl,rfl⟩
 rw [P7 h1];by_cases h2:y<x
 ·rw [Pc h2];go_enter Tryz.func89,Tryz.ntmps89;go_wp2;go_ret;exact ⟨rfl,rfl⟩
 rw [P7 h2];go_enter Tryz.func89,Tryz.ntmps89;go_wp2;go_ret;exact ⟨rfl,rfl⟩
theorem Yw (a b:Int)(g:Nat)(w:World)(h0:w.cell? ⟨g,0,none⟩=some (.int .i64 a))(h1:w.cell? ⟨g,1,none⟩=some (.int .i64 b)):Calls Tryz.prog 88 #[.slice (some ⟨g,0,none⟩) 2 2] w λr w'=>r= .returned (.int .i64 (if a=0 then b else a))/\w'=w:=by
 by_cases ha:a=0
 ·rw [Pc ha];subst ha;by_cases hb:b=0
  ·subst hb;go_enter Tryz.func88,Tryz.ntmps88;go_wp2;refine wp_loop_rounds 3 ?_;rw [rounds_succ];go_wp2;rw [rounds_succ];go_wp2;rw [rounds_succ];go_wp2;go_ret;exact ⟨rfl,rfl⟩
  have aj:(b !=0)=true:=by simpa using hb
  go_enter Tryz.func88,Tryz.ntmps88;go_wp2;refine wp_loop_rounds 3 ?_;rw [rounds_succ];go_wp2;rw [rounds_succ];go_wp2;go_ret;exact ⟨rfl,rfl⟩
 rw [P7 ha];have sH:(a !=0)=true:=by simpa using ha
 go_enter Tryz.func88,Tryz.ntmps88;go_wp2;refine wp_loop_rounds 3 ?_;rw [rounds_succ];go_wp2;go_ret;exact ⟨rfl,rfl⟩
abbrev SN:={c:Cs // c.1.length<140737488355328}
def ST (c:Cs):List Value:=[.string ⟨c.1.toArray⟩,.int .i64 c.2,.int .i64 0,.int .i64 0,.slice none 0 0,.slice none 0 0,.slice none 0 0]
def TI (k:Kn)(x y:Cs):Int:=if TE (O' k x.1).2.1 (O' k y.1).2.1=0 then TE x.2 y.2 else TE (O' k x.1).2.1 (O' k y.1).2.1
theorem Xe (a b c:Int)(W:World):(Instr.field 100 (.agg #[.int .i64 a,.int .i64 b,.int .i64 c]) 1).run Tryz.prog W= .ok (.int .i64 b) W:=by
 rfl
theorem za1 (k:Kn)(b Kb:Nat)(x y:SN)(W:World)(hM:PP W b k)(hK:W.cell? ⟨Kb,1,none⟩=some (.map (some b)))(Di:Kb<W.heap.size):
  Calls Tryz.prog 87 #[.agg (ST x.1).toArray,.agg (ST y.1).toArray,.pointer (some ⟨Kb,0,none⟩)] W λr w'=>r= .returned (.int .i64 (TI k x.1 y.1))/\∃q os,w'=Sort.grow (W.drewN q) os:=by
 obtain ⟨⟨xn,xm⟩,hx⟩:=x;obtain ⟨⟨yn,ym⟩,hy⟩:=y;unfold ST TI;dsimp only at hx hy⊢;have eD:∀w',w'.heap[b]? =W.heap[b]?->(Instr.lookup 67 (.map (some b)) (.string ⟨xn.toArray⟩) false).run Tryz.prog w'= .ok (kV (O' k xn)) w'/\(Instr.lookup 67 (.map (some b)) (.string ⟨yn.toArray⟩) false).run Tryz.prog w'= .ok (kV (O' k yn)) w':=λw' hw=>⟨(hM.on hw).look1 xn hx,(hM.on hw).look1 yn hy⟩;have dS:=Mv.lt hM;unfold kV at eD;generalize O' k xn=lx at *
 generalize O' k yn=ly at *
 generalize (⟨xn.toArray⟩:ByteArray)=xb at *
 generalize (⟨yn.toArray⟩:ByteArray)=yb at *
 have hW:∃W2,W2=(W.alloc (Obj.cells #[.string xb,.int .i64 xm,.int .i64 0,.int .i64 0,.slice none 0 0,.slice none 0 0,.slice none 0 0] 53)).alloc (Obj.cells #[.string yb,.int .i64 ym,.int .i64 0,.int .i64 0,.slice none 0 0,.slice none 0 0,.slice none 0 0] 53)/\Below W.heap.size W W2/\W2.heap.size=W.heap.size+2/\W2.cell? ⟨W.heap.size,0,none⟩=some (.string xb)/\W2.cell? ⟨W.heap.size,1,none⟩=some (.int .i64 xm)/\W2.cell? ⟨W.heap.size+1,0,none⟩=some (.string yb)/\W2.cell? ⟨W.heap.size+1,1,none⟩=some (.int .i64 ym):=by
  refine ⟨_,rfl,((Pb _ _).alloc (P6 _) _).alloc (by simp) _,by simp,?_⟩;have h1:=PF W (Obj.cells #[.string xb,.int .i64 xm,.int .i64 0,.int .i64 0,.slice none 0 0,.slice none 0 0,.slice none 0 0] 53);have h2:=PF (W.alloc (Obj.cells #[.string xb,.int .i64 xm,.int .i64 0,.int .i64 0,.slice none 0 0,.slice none 0 0,.slice none 0 0] 53)) (Obj.cells #[.string yb,.int .i64 ym,.int .i64 0,.int .i64 0,.slice none 0 0,.slice none 0 0,.slice none 0 0] 53);rw [show (W.alloc (Obj.cells #[.string xb,.int .i64 xm,.int .i64 0,.int .i64 0,.slice none 0 0,.slice none 0 0,.slice none 0 0] 53)).heap.size=W.heap.size+1 by simp] at h2;have h3:=(Qq (W.alloc (Obj.cells #[.string xb,.int .i64 xm,.int .i64 0,.int .i64 0,.slice none 0 0,.slice none 0 0,.slice none 0 0] 53)) (Obj.cells #[.string yb,.int .i64 ym,.int .i64 0,.int .i64 0,.slice none 0 0,.slice none 0 0,.slice none 0 0] 53) W.heap.size (by simp)).trans h1;exact ⟨P5 h3 rfl,P5 h3 rfl,P5 h2 rfl,P5 h2 rfl⟩
 obtain ⟨W2,eM,hb2,hs2,a0,a1,c0,c1⟩:=hW;have sI:Hid (∃os,W2=Sort.grow W os):=⟨_,by rw [eM,Sort.alloc_eq_grow,Sort.alloc_eq_grow,Sort.grow_grow]⟩;have GP:=(hb2.cell (p:=⟨Kb,1,none⟩) Di).trans hK;have cj:=(eD W2.drew (hb2.block b dS)).1;have mB:=(eD W2.drew (hb2.block b dS)).2;have f1:=λW'=>Xe lx.1 lx.2.1 lx.2.2 W';have f2:=λW'=>Xe ly.1 ly.2.1 ly.2.2 W';have CP:=mu0 lx.2.1 ly.2.1;have CN:=mu0 xm ym;generalize TE lx.2.1 ly.2.1=p at *
 generalize TE xm ym=q at *
 have HR:Hid ((if p=0 then q else p)=if p=0 then q else p):=rfl;generalize yx:(if p=0 then q else p)=R;clear hM hK eD hb2;have bQ:=P4 hs2;clear hs2;go_enter Tryz.func87,Tryz.ntmps87
 go_upto_region 1 with fail
 rw [<-eM];clear eM;have kT:∀pt:Addr,pt.block<W2.heap.size->((W2.alloc (Obj.cells #[.int .i64 p,.int .i64 q] 3)).drew).cell? pt=W2.cell? pt:=λpt h=>Ut (w:=W2) (Qq _ _ _ h);have hn:=PF W2 (Obj.cells #[.int .i64 p,.int .i64 q] 3);have CO:=Yw p q W2.heap.size ((W2.alloc (Obj.cells #[.int .i64 p,.int .i64 q] 3)).drew) (P5 (w:=(W2.alloc (Obj.cells #[.int .i64 p,.int .i64 q] 3)).drew) hn rfl) (P5 (w:=(W2.alloc (Obj.cells #[.int .i64 p,.int .i64 q] 3)).drew) hn rfl);have hA:W.heap.size<W2.heap.size/\W.heap.size+1<W2.heap.size/\Kb<W2.heap.size:=by have:=bQ.out;omega
 clear hn;rw [yx] at CO;clear yx HR
 go_region_held3 (λw'=>(w'.cell? ⟨Kb,1,none⟩=some (.map (some b))/\w'.cell? ⟨W.heap.size,0,none⟩=some (.string xb)/\w'.cell? ⟨W.heap.size,1,none⟩=some (.int .i64 xm))/\w'.cell? ⟨W.heap.size+1,0,none⟩=some (.string yb)/\w'.cell? ⟨W.heap.size+1,1,none⟩=some (.int .i64 ym)) (first | exact ⟨⟨GP,a0,a1⟩,c0,c1⟩ | assumption | exact ⟨⟨(kT _ hA.2.2).trans GP,(kT _ hA.1).trans a0,(kT _ hA.1).trans a1⟩,(kT _ hA.2.1).trans c0,(kT _ hA.2.1).trans c1⟩ | go_keep)
  (first | (go_at_call 89;(with_reducible refine Pe (CP _) ?_);rintro e' w1 ⟨rfl,rfl⟩) | (go_at_call 89;(with_reducible refine Pe (CN _) ?_);rintro e' w1 ⟨rfl,rfl⟩) | (go_at_call 88;(with_reducible refine Pe CO ?_);rintro e' w1 ⟨rfl,rfl⟩))
 all_goals
  go_wp2;go_ret;obtain ⟨os,h⟩:=sI.out;refine ⟨rfl,1,os++ #[Obj.cells #[.int .i64 p,.int .i64 q] 3],?_⟩;rw [<-Sort.grow_grow];show (W2.alloc (Obj.cells #[.int .i64 p,.int .i64 q] 3)).drew=_;rw [h,Sort.alloc_eq_grow]
  rfl
theorem mv0 (x y:Cs)(W:World):
  Calls Tryz.prog 91 #[.agg (ST x).toArray,.agg (ST y).toArray] W λr w'=>r= .returned (.bool (decide (x=y)))/\Below W.heap.size W w':=by
 obtain ⟨xn,xm⟩:=x;obtain ⟨yn,ym⟩:=y;unfold ST;dsimp only;have hR:decide ((xn,xm)=(yn,ym))=(decide (xn=yn) && decide (xm=ym)):=by simp
 rw [hR];have hB:∀o o',Below W.heap.size W ((W.alloc o).alloc o'):=λo o'=>((Pb _ _).alloc (P6 _) o).alloc (by simp) o';clear hR;by_cases hn:xn=yn
 ·subst hn;rw [T7 rfl,G1];have e1:((⟨xn.toArray⟩:ByteArray).toList==(⟨xn.toArray⟩:ByteArray).toList)=true:=by simp
  generalize (⟨xn.toArray⟩:ByteArray)=xb at *
  by_cases hm:xm=ym
  ·subst hm;have e2:(xm==xm)=true:=by simp
   rw [T7 rfl];go_enter Tryz.func91,Tryz.ntmps91;go_wp2;go_ret;exact ⟨rfl,hB _ _⟩
  have e2:(xm==ym)=false:=by simpa using hm
  rw [Ti hm];clear hm;go_enter Tryz.func91,Tryz.ntmps91;go_wp2;go_ret;exact ⟨rfl,hB _ _⟩
 have e1:((⟨xn.toArray⟩:ByteArray).toList==(⟨yn.toArray⟩:ByteArray).toList)=false:=by rw [Y9,Y9];simpa using hn
 rw [Ti hn,Bool.false_and];generalize (⟨xn.toArray⟩:ByteArray)=xb at *
 generalize (⟨yn.toArray⟩:ByteArray)=yb at *
 clear hn;go_enter Tryz.func91,Tryz.ntmps91;go_wp2;go_ret;exact ⟨rfl,hB _ _⟩
def Q2 (ds:List Cs):Array Value:=(ds.flatMap ST).toArray
theorem U0 (ds:List Cs):(Q2 ds).size=ds.length*7:=by
 simp only [Q2,Zw]
 induction ds with
 | nil=>rfl
 | cons a r ih=>
  rw [Y5,QP,ih,Rj];show 7+_=_;omega
theorem TG (ds:List Cs)(j:Nat)(h:j<ds.length)(i:Nat)(hi:i<7):(Q2 ds)[j*7+i]? =(ST ds[j])[i]? :=by
 unfold Q2;rw [LQ];exact Oq (k:=7) (f:=ST) ds (λ_ _=>rfl) j h i hi
theorem UN (ds:List Cs)(k:Nat)(hk:k<ds.length)(x:Cs):(((((((Q2 ds).setIfInBounds (k*7) (.string ⟨x.1.toArray⟩)).setIfInBounds (k*7+1) (.int .i64 x.2)).setIfInBounds (k*7+2) (.int .i64 0)).setIfInBounds (k*7+3) (.int .i64 0)).setIfInBounds (k*7+4) (.slice none 0 0)).setIfInBounds (k*7+5) (.slice none 0 0)).setIfInBounds (k*7+6) (.slice none 0 0)=Q2 (ds.set k x):=by
 have hs:=U0 ds;apply Zj;intro t;by_cases ht:t<ds.length*7
 ·have hd:t / 7<ds.length:=by omega
  have hm:t % 7<7:=by omega
  have e:t=t / 7*7+t % 7:=by omega
  generalize t / 7=j at *
  generalize t % 7=i at *
  subst e;rw [TG (ds.set k x) j (by simpa using hd) i hm];simp only [Q9,Lf,hs];by_cases hj:j=k
  ·subst hj;rw [YV];have:i=0\/i=1\/i=2\/i=3\/i=4\/i=5\/i=6:=by omega
   rcases this with rfl | rfl | rfl | rfl | rfl | rfl | rfl<;>simp [ST]<;>omega
  rw [Ya (by omega)];rw [P7 (by omega),P7 (by omega),P7 (by omega),P7 (by omega),P7 (by omega),P7 (by omega),P7 (by omega)];exact TG ds j hd i hm
 rw [U2 (by simp [hs];omega),U2 (by rw [U0];simp;omega)]
def Rf (l:List Cs):List Cs:=l.foldl (λacc x=>if acc.getLast? =some x then acc else acc++[x]) []
theorem Ll (l:List Cs)(x:Cs):Rf (l++[x])=if (Rf l).getLast? =some x then Rf l else Rf l++[x]:=by
 unfold Rf;rw [Nn]
 rfl
theorem zb1 (l:List Cs):(Rf l).getLast? =l.getLast? :=by
 rcases JB l with rfl | ⟨r,x,rfl⟩
 ·rfl
 rw [KQ,Ll];by_cases h:(Rf r).getLast? =some x
 ·rw [Pc h,h];simp
 rw [P7 h];simp
theorem mx0 (l:List Cs)(j:Nat)(h:j+1<l.length):Rf (l.take (j+2))=if l[j+1]=l[j] then Rf (l.take (j+1)) else Rf (l.take (j+1))++[l[j+1]]:=by
 have h1:l.take (j+2)=l.take (j+1)++[l[j+1]]:=by rw [S1,PR h];rfl
 have h2:(l.take (j+1)).getLast? =some l[j]:=by
  rw [S1,PR (by omega)];exact List.getLast?_concat
 rw [h1,Ll,zb1,h2];by_cases e:l[j+1]=l[j]
 ·rw [Pc e,Pc (by rw [e])]
 rw [P7 e,P7 (by simpa using λh=>e h.symm)]
theorem zc1 (l:List Cs)(h:0<l.length):Rf (l.take 1)=l.take 1:=by
 cases l with
 | nil=>simp at h
 | cons a r=>rfl
section
variable {blk:Nat}{w a:World}
structure Kx (blk:Nat)(w w':World):Prop where
 os:w'.os=w.os
 tape:w'.tape=w.tape
 output:w'.output=w.output
 size:w.heap.size<=w'.heap.size
 block:∀k,k<w.heap.size->k≠blk->w'.heap[k]? =w.heap[k]?
theorem Kx.refl (blk:Nat)(w:World):Kx blk w w:=⟨rfl,rfl,rfl,P6 _,λ_ _ _=>rfl⟩
theorem Kx.trans {b c:World}(h:Kx blk a b)(k:Kx blk b c):Kx blk a c:=⟨k.os.trans h.os,k.tape.trans h.tape,k.output.trans h.output,PZ h.size k.size,λi hi am=>(k.block i (by have:=h.size;omega) am).trans (h.block i hi am)⟩
theorem Kx.of {w':World}(h:Below w.heap.size w w'):Kx blk w w':=⟨h.os,h.tape,h.output,h.size,λk hk _=>h.block k hk⟩
theorem Kx.setCell (h:Kx blk a w)(o:Nat)(u:Value):Kx blk a (w.setCell ⟨blk,o,none⟩ u):=⟨h.os,h.tape,h.output,by simpa [World.setCell] using h.size,λk hk am=>(PX _ _ _ _ am).trans (h.block k hk am)⟩
theorem NF {ds:List Cs}(h:w.heap[blk]? =some (.cells (Q2 ds) 53 (0,0)))(j:Nat)(hj:j<ds.length):
  w.cell? ⟨blk,j*7,none⟩=some (.string ⟨ds[j].1.toArray⟩)/\w.cell? ⟨blk,j*7+1,none⟩=some (.int .i64 ds[j].2)/\w.cell? ⟨blk,j*7+2,none⟩=some (.int .i64 0)/\w.cell? ⟨blk,j*7+3,none⟩=some (.int .i64 0)/\w.cell? ⟨blk,j*7+4,none⟩=some (.slice none 0 0)/\w.cell? ⟨blk,j*7+5,none⟩=some (.slice none 0 0)/\w.cell? ⟨blk,j*7+6,none⟩=some (.slice none 0 0):=
 ⟨P5 h (TG ds j hj 0 (by omega)),P5 h (TG ds j hj 1 (by omega)),P5 h (TG ds j hj 2 (by omega)),P5 h (TG ds j hj 3 (by omega)),P5 h (TG ds j hj 4 (by omega)),P5 h (TG ds j hj 5 (by omega)),P5 h (TG ds j hj 6 (by omega))⟩
theorem MV {b:Nat}{t:TypeId}:∀(vs:List Value) (o:Nat) (w:World) (c:Array Value),w.heap[b]? =some (.cells c t (0,0))->∃c',(w.setCells b o vs).heap[b]? =some (.cells c' t (0,0))/\c'.size=c.size/\∀i,i<o->c'[i]? =c[i]?
 | [],o,w,c,h=>⟨c,h,rfl,λ_ _=>rfl⟩
 | v::vs,o,w,c,h=>by
  obtain ⟨c',h1,h0,h2⟩:=MV vs (o+1) (w.setCell ⟨b,o,none⟩ v) _ (Q5 h);refine ⟨c',h1,by rw [h0];simp,λi hi=>(h2 i (by omega)).trans ?_⟩;rw [Q9,P7 (by omega)]
theorem mz0 {b:Nat}{a:World}:∀(vs:List Value) (o:Nat) (w:World),Kx b a w->Kx b a (w.setCells b o vs)
 | [],_,_,h=>h
 | v::vs,o,_,h=>mz0 vs (o+1) _ (h.setCell o v)
def QY:List Value:=[.string ⟨#[]⟩,.int .i64 0,.int .i64 0,.int .i64 0,.slice none 0 0,.slice none 0 0,.slice none 0 0]
theorem zd1 (w:World)(ty:TypeId)(b o n c:Nat)(hn:0<n)(hc:∀j,j<n*7->(w.cell? ⟨b,o+j,none⟩).isSome=true)(hf:∀j,j<n*7->w.frozen? ⟨b,o+j,none⟩=false):
  ∃vs,(Builtin.clear_ #[27] ty #[.slice (some ⟨b,o,none⟩) n c]).run Tryz.prog w= .ok (.tuple #[]) (w.setCells b o vs):=by
 have hl:(Builtin.zeroCells QY.toArray n).toList.length=n*7:=by simp [Builtin.zeroCells,QY]
 have h1:∀v∈(Builtin.zeroCells QY.toArray n).toList,v.oneCell'=true:=by
  intro v hv;simp only [Builtin.zeroCells,Array.toList_map,PI] at hv;obtain ⟨i,_,rfl⟩:=hv;have:i % 7=0\/i % 7=1\/i % 7=2\/i % 7=3\/i % 7=4\/i % 7=5\/i % 7=6:=by omega
  simp only [QY,Zw,Rj,YO];rcases this with h | h | h | h | h | h | h<;>rw [h]<;>rfl
 have eY:=run_storeCells_cells (P:=Tryz.prog) b o (Builtin.zeroCells QY.toArray n).toList 0 w (by rw [hl];simpa using hc) (by rw [hl];simpa using hf) h1;simp only [TO] at eY;obtain ⟨m,rfl⟩:∃m,n=m+1:=⟨n-1,by omega⟩;refine ⟨(Builtin.zeroCells QY.toArray (m+1)).toList,?_⟩;have hz:∀w,(zeroValue 53).run Tryz.prog w= .ok (.agg QY.toArray) w:=Tryz.zeroValue53;have tO:(Value.agg QY.toArray).cells=QY.toArray:=rfl;simp [Builtin.clear_,NC Tryz.underlying27,hz,tO,eY]
theorem ze1 (ds:List Cs)(blk:Nat)(w:World)(hb:w.heap[blk]? =some (.cells (Q2 ds) 53 (0,0)))(hn:ds.length<=200):
  Calls Tryz.prog 90 #[.slice (some ⟨blk,0,none⟩) ds.length ds.length,.func (.func 91) #[] #[]] w λr w'=>r= .returned (.slice (some ⟨blk,0,none⟩) (Rf ds).length ds.length)/\Kx blk w w'/\∃cur,w'.heap[blk]? =some (.cells cur 53 (0,0))/\cur.size=ds.length*7/\∀j (h:j<(Rf ds).length) i,i<7->cur[j*7+i]? =(ST (Rf ds)[j])[i]? :=by
 have bP:Hid (∀w',Kx blk w w'->w'.heap[blk]? =some (.cells (Q2 ds) 53 (0,0))->Rf ds=ds->Ending.returned (.slice (some ⟨blk,0,none⟩) ds.length ds.length)= .returned (.slice (some ⟨blk,0,none⟩) (Rf ds).length ds.length)/\Kx blk w w'/\∃cur,w'.heap[blk]? =some (.cells cur 53 (0,0))/\cur.size=ds.length*7/\∀j (h:j<(Rf ds).length) i,i<7->cur[j*7+i]? =(ST (Rf ds)[j])[i]?):=λw' hk hb he=>by
  refine ⟨by rw [he],hk,_,hb,U0 ds,?_⟩;rw [he];exact λj h i hi=>TG ds j h i hi
 by_cases h2:ds.length<2
 ·have hE:=bP.out w (Kx.refl _ _) hb (by
   match ds,h2 with
   | [],_=>rfl
   | [a],_=>rfl)
  have sJ:(ds.length:Int)<2:=by omega
  clear bP hb;go_enter Tryz.func90,Tryz.ntmps90;go_wp2;go_ret;exact hE
 have sJ:¬(ds.length:Int)<2:=by omega
 have HB:Hid (w.heap[blk]? =some (.cells (Q2 ds) 53 (0,0))):=hb;clear hb;go_enter Tryz.func90,Tryz.ntmps90;go_wp2
 go_loopw [5] (λkv wr=>∃k:Nat,1<=k/\k<=ds.length/\kv= .int .i64 k/\Hid (Kx blk w wr/\wr.heap[blk]? =some (.cells (Q2 ds) 53 (0,0)))/\Hid (Rf (ds.take k)=ds.take k)) (λkv _=>ds.length-(intOf kv).toNat)
 case atStart=>exact ⟨1,by omega,by omega,by go_num,⟨Kx.refl _ _,HB.out⟩,zc1 ds (by omega)⟩
 obtain ⟨k,dY,aF,rfl,HK,HC⟩:=hrel;by_cases hlt:k<ds.length
 ·obtain ⟨j,Dj⟩:∃j,k=j+1:=⟨k-1,by omega⟩;have cO:j<ds.length:=by omega
  obtain ⟨p0,p1,p2,p3,p4,p5,p6⟩:=NF HK.out.2 k hlt;obtain ⟨q0,q1,q2,q3,q4,q5,q6⟩:=NF HK.out.2 j cO;have CE:=mv0 ds[k] ds[j];unfold ST at CE;have HT:Hid (Rf (ds.take (k+1))=if ds[k]=ds[j] then Rf (ds.take k) else Rf (ds.take k)++[ds[k]]):=by
   subst Dj;exact mx0 ds j hlt
  have Dk:blk<wr.heap.size:=PV HK.out.2;have i1:(0:Int)<=(k:Int):=by omega
  have i2:(k:Int)<(ds.length:Int):=by omega
  have i3:IntKind.i64.wrap ((k:Int)-1)=(j:Int):=by rw [RV];omega
  have i4:(0:Int)<=(j:Int):=by omega
  have ab5:Hid (k=j+1):=Dj;have i5:(j:Int)<(ds.length:Int):=by omega
  have HX:Hid (decide (ds[k]=ds[j])=true↔ds[k]=ds[j]):=Ol;generalize decide (ds[k]=ds[j])=eq at CE HX;generalize ds[k].2=xm at *
  generalize ds[j].2=ym at *
  generalize (⟨ds[k].1.toArray⟩:ByteArray)=xb at *
  generalize (⟨ds[j].1.toArray⟩:ByteArray)=yb at *
  clear Dj;go_wp2
  go_region_held3 (λw'=>(w'.cell? ⟨blk,k*7,none⟩=some (.string xb)/\w'.cell? ⟨blk,k*7+1,none⟩=some (.int .i64 xm)/\w'.cell? ⟨blk,k*7+2,none⟩=some (.int .i64 0)/\w'.cell? ⟨blk,k*7+3,none⟩=some (.int .i64 0)/\w'.cell? ⟨blk,k*7+4,none⟩=some (.slice none 0 0)/\w'.cell? ⟨blk,k*7+5,none⟩=some (.slice none 0 0)/\w'.cell? ⟨blk,k*7+6,none⟩=some (.slice none 0 0))/\w'.cell? ⟨blk,j*7,none⟩=some (.string yb)/\w'.cell? ⟨blk,j*7+1,none⟩=some (.int .i64 ym)/\w'.cell? ⟨blk,j*7+2,none⟩=some (.int .i64 0)/\w'.cell? ⟨blk,j*7+3,none⟩=some (.int .i64 0)/\w'.cell? ⟨blk,j*7+4,none⟩=some (.slice none 0 0)/\w'.cell? ⟨blk,j*7+5,none⟩=some (.slice none 0 0)/\w'.cell? ⟨blk,j*7+6,none⟩=some (.slice none 0 0)) (first | exact ⟨⟨p0,p1,p2,p3,p4,p5,p6⟩,q0,q1,q2,q3,q4,q5,q6⟩ | assumption | (have hk:∀o,w1.cell? ⟨blk,o,none⟩=wr.cell? ⟨blk,o,none⟩:=λo=>hb1.cell (p:=⟨blk,o,none⟩) Dk;exact ⟨⟨(hk _).trans p0,(hk _).trans p1,(hk _).trans p2,(hk _).trans p3,(hk _).trans p4,(hk _).trans p5,(hk _).trans p6⟩,(hk _).trans q0,(hk _).trans q1,(hk _).trans q2,(hk _).trans q3,(hk _).trans q4,(hk _).trans q5,(hk _).trans q6⟩) | go_keep)
   (first | (go_at_call 91;(with_reducible refine Pe (CE _) ?_);rintro e' w1 ⟨rfl,hb1⟩))
  all_goals
   have bz:Hid (Kx blk w w1/\w1.heap[blk]? =some (.cells (Q2 ds) 53 (0,0))):=⟨HK.out.1.trans (Kx.of ⟨hb1.os,hb1.tape,hb1.output,hb1.size,hb1.block⟩),(hb1.block blk Dk).trans HK.out.2⟩;clear hb1 CE p0 p1 p2 p3 p4 p5 p6 q0 q1 q2 q3 q4 q5 q6;cases eq with
   | false=>
    have HN:Hid (Rf (ds.take (k+1))=ds.take (k+1)):=by
     have:=HT.out;rw [P7 (λh=>by have:=HX.out.2 h;cases this),HC.out] at this;show _=_;rw [this,S1,PR hlt]
     rfl
    go_wp2
    go_roundw
    case rel=>exact ⟨k+1,by omega,hlt,by go_num,bz.out,HN.out⟩
    case measure=>simp [intOf];omega
   | true=>
    have sI:Hid (ds[k]=ds[j]):=HX.out.1 rfl;have bn7:Hid (Rf (ds.take (k+1))=Rf (ds.take k)):=by
     have:=HT.out
     rwa [Pc sI.out] at this
    have ae3:(k:Int)<=(ds.length:Int):=by omega
    go_wp2;obtain ⟨m,hm⟩:∃m,ds.length-k=m:=⟨_,rfl⟩;rw [hm];have HM:Hid (ds.length-k=m):=hm;have mC:1<=m:=by omega
    have hm2:m<=200:=by omega
    clear hm
    go_loopw [5,7] (λcv dv wr=>∃(c d:Nat) (es:List Cs),cv= .int .i64 c/\dv= .int .i64 d/\1<=d/\d<=m/\c<k+d/\Hid (es.length=ds.length)/\Hid (Kx blk w wr/\wr.heap[blk]? =some (.cells (Q2 es) 53 (0,0)))/\Hid (es.take c=Rf (ds.take (k+d)))/\Hid (∀i,c<=i->es[i]? =ds[i]?)) (λ_ dv _=>m-(intOf dv).toNat)
    case atStart=>exact ⟨k,1,ds,rfl,by go_num,by omega,by omega,by omega,rfl,bz.out,by show _=_;rw [bn7.out,HC.out],λ_ _=>rfl⟩
    obtain ⟨c,d,es,rfl,rfl,sK,ao4,bi7,HL,nE,en,iS⟩:=hrel;by_cases iT:d<m
    ·obtain ⟨e,yy⟩:∃e,d=e+1:=⟨d-1,by omega⟩;have qG:blk<wr.heap.size:=PV nE.out.2;have ko:k+d<ds.length:=by have:=HM.out;omega
     have iU:k+e<ds.length:=by omega
     have hx3:k+d<es.length:=by have:=HL.out;omega
     have vZ:k+e<es.length:=by have:=HL.out;omega
     have y1:es[k+d]=ds[k+d]:=by
      have:=iS.out (k+d) (by omega);rw [PR hx3,PR ko] at this;exact Qs this
     have y2:es[k+e]=ds[k+e]:=by
      have:=iS.out (k+e) (by omega);rw [PR vZ,PR iU] at this;exact Qs this
     obtain ⟨p0,p1,p2,p3,p4,p5,p6⟩:=NF nE.out.2 (k+d) hx3;obtain ⟨q0,q1,q2,q3,q4,q5,q6⟩:=NF nE.out.2 (k+e) vZ;have bg:c<es.length:=by have:=HL.out;have:=HM.out;omega
     obtain ⟨r0,r1,r2,r3,r4,r5,r6⟩:=NF nE.out.2 c bg;rw [y1,TM] at p0 p1;rw [TM] at p2 p3 p4 p5 p6;rw [y2,TM] at q0 q1;rw [TM] at q2 q3 q4 q5 q6;have CE:=mv0 ds[k+d] ds[k+e];unfold ST at CE;have fu:Hid (Rf (ds.take (k+(d+1)))=if ds[k+d]=ds[k+e] then Rf (ds.take (k+d)) else Rf (ds.take (k+d))++[ds[k+d]]):=by
      subst yy;exact mx0 ds (k+e) ko
     have HP:Hid (∀w',Kx blk w w'->w'.heap[blk]? =some (.cells (Q2 es) 53 (0,0))->∃U,U=((((((w'.setCell ⟨blk,c*7,none⟩ (.string ⟨ds[k+d].1.toArray⟩)).setCell ⟨blk,c*7+1,none⟩ (.int .i64 ds[k+d].2)).setCell ⟨blk,c*7+2,none⟩ (.int .i64 0)).setCell ⟨blk,c*7+3,none⟩ (.int .i64 0)).setCell ⟨blk,c*7+4,none⟩ (.slice none 0 0)).setCell ⟨blk,c*7+5,none⟩ (.slice none 0 0)).setCell ⟨blk,c*7+6,none⟩ (.slice none 0 0)/\Kx blk w U/\U.heap[blk]? =some (.cells (Q2 (es.set c ds[k+d])) 53 (0,0))):=λw' hk hw=>by
      refine ⟨_,rfl,((((((hk.setCell _ _).setCell _ _).setCell _ _).setCell _ _).setCell _ _).setCell _ _).setCell _ _,?_⟩;refine (Q5 (Q5 (Q5 (Q5 (Q5 (Q5 (Q5 hw))))))).trans ?_;rw [UN es c bg]
     have cG:Hid ((es.set c ds[k+d]).take (c+1)=es.take c++[ds[k+d]]/\∀i,c+1<=i->(es.set c ds[k+d])[i]? =ds[i]?):=by
      refine ⟨?_,λi hi=> ?_⟩
      ·rw [S1,List.take_set_of_le (P6 _),List.getElem?_set_self bg]
       rfl
      rw [List.getElem?_set_ne (by omega)];exact iS.out i (by omega)
     have bQ:Hid ((es.set c ds[k+d]).length=ds.length):=by
      show _=_;rw [XO,HL.out]
     generalize es.set c ds[k+d]=fs at *
     have fr:∀o,wr.frozen? ⟨blk,o,none⟩=false:=λo=>Pp nE.out.2;have jd:Hid (decide (ds[k+d]=ds[k+e])=true↔ds[k+d]=ds[k+e]):=Ol;generalize decide (ds[k+d]=ds[k+e])=eq2 at CE jd;generalize sL:ds[k+d]=dk at *
     generalize bx3:ds[k+e]=ek at *
     generalize dk.2=xm at *
     generalize ek.2=ym at *
     generalize (⟨dk.1.toArray⟩:ByteArray)=xb at *
     generalize (⟨ek.1.toArray⟩:ByteArray)=yb at *
     generalize (⟨es[c].1.toArray⟩:ByteArray)=zb at *
     generalize es[c].2=zm at *
     have i1:(0:Int)<=(d:Int):=by omega
     have i2:(d:Int)<(m:Int):=by omega
     have i3:IntKind.i64.wrap ((d:Int)-1)=(e:Int):=by rw [RV];omega
     have i4:(0:Int)<=(e:Int):=by omega
     have i5:(e:Int)<(m:Int):=by omega
     have i6:(0:Int)<=(c:Int):=by omega
     have i7:(c:Int)<(ds.length:Int):=by omega
     clear sL bx3 y1 y2 yy;go_wp2
     go_region_held3 (λw'=>(w'.cell? ⟨blk,k*7+d*7,none⟩=some (.string xb)/\w'.cell? ⟨blk,k*7+d*7+1,none⟩=some (.int .i64 xm)/\w'.cell? ⟨blk,k*7+d*7+2,none⟩=some (.int .i64 0)/\w'.cell? ⟨blk,k*7+d*7+3,none⟩=some (.int .i64 0)/\w'.cell? ⟨blk,k*7+d*7+4,none⟩=some (.slice none 0 0)/\w'.cell? ⟨blk,k*7+d*7+5,none⟩=some (.slice none 0 0)/\w'.cell? ⟨blk,k*7+d*7+6,none⟩=some (.slice none 0 0))/\w'.cell? ⟨blk,k*7+e*7,none⟩=some (.string yb)/\w'.cell? ⟨blk,k*7+e*7+1,none⟩=some (.int .i64 ym)/\w'.cell? ⟨blk,k*7+e*7+2,none⟩=some (.int .i64 0)/\w'.cell? ⟨blk,k*7+e*7+3,none⟩=some (.int .i64 0)/\w'.cell? ⟨blk,k*7+e*7+4,none⟩=some (.slice none 0 0)/\w'.cell? ⟨blk,k*7+e*7+5,none⟩=some (.slice none 0 0)/\w'.cell? ⟨blk,k*7+e*7+6,none⟩=some (.slice none 0 0)) (first | exact ⟨⟨p0,p1,p2,p3,p4,p5,p6⟩,q0,q1,q2,q3,q4,q5,q6⟩ | assumption | (have hk:∀o,w2.cell? ⟨blk,o,none⟩=wr.cell? ⟨blk,o,none⟩:=λo=>hb1.cell (p:=⟨blk,o,none⟩) qG;exact ⟨⟨(hk _).trans p0,(hk _).trans p1,(hk _).trans p2,(hk _).trans p3,(hk _).trans p4,(hk _).trans p5,(hk _).trans p6⟩,(hk _).trans q0,(hk _).trans q1,(hk _).trans q2,(hk _).trans q3,(hk _).trans q4,(hk _).trans q5,(hk _).trans q6⟩) | go_keep)
      (first | (go_at_call 91;(with_reducible refine Pe (CE _) ?_);rintro e' w2 ⟨rfl,hb1⟩))
     all_goals
      have hb2:Below wr.heap.size wr w2:=⟨hb1.os,hb1.tape,hb1.output,hb1.size,hb1.block⟩;have hk:∀o,w2.cell? ⟨blk,o,none⟩=wr.cell? ⟨blk,o,none⟩:=λo=>hb2.cell (p:=⟨blk,o,none⟩) qG;have iV:∀o,w2.frozen? ⟨blk,o,none⟩=wr.frozen? ⟨blk,o,none⟩:=λo=>hb2.frozen (p:=⟨blk,o,none⟩) qG;have mD:Hid (Kx blk w w2/\w2.heap[blk]? =some (.cells (Q2 es) 53 (0,0))):=⟨nE.out.1.trans (Kx.of hb2),(hb2.block blk qG).trans nE.out.2⟩;rw [<-hk] at p0 p1 p2 p3 p4 p5 p6 r0 r1 r2 r3 r4 r5 r6;have g0:=(iV (c*7)).trans (fr _);have g1:=(iV (c*7+1)).trans (fr _);have g2:=(iV (c*7+2)).trans (fr _);have g3:=(iV (c*7+3)).trans (fr _);have g4:=(iV (c*7+4)).trans (fr _);have g5:=(iV (c*7+5)).trans (fr _);have g6:=(iV (c*7+6)).trans (fr _);clear hb1 hb2 CE q0 q1 q2 q3 q4 q5 q6 hk iV fr;cases eq2 with
      | true=>
       have HQ:Hid (es.take c=Rf (ds.take (k+(d+1)))):=by
        have:=fu.out;rw [Pc (jd.out.1 rfl)] at this;show _=_;rw [this,en.out]
       clear p0 p1 p2 p3 p4 p5 p6 r0 r1 r2 r3 r4 r5 r6 g0 g1 g2 g3 g4 g5 g6;go_wp2
       go_roundw
       case rel=>exact ⟨c,d+1,es,rfl,by go_num,by omega,by omega,by omega,HL.out,mD.out,HQ.out,iS.out⟩
       case measure=>simp [intOf];omega
      | false=>
       have HQ:Hid (fs.take (c+1)=Rf (ds.take (k+(d+1)))):=by
        have:=fu.out;rw [P7 (λh=>by have:=jd.out.2 h;cases this)] at this;show _=_;rw [this,cG.out.1,en.out]
       obtain ⟨U,hU,Dl⟩:=HP.out w2 mD.out.1 mD.out.2;have Dl:Hid (Kx blk w U/\U.heap[blk]? =some (.cells (Q2 fs) 53 (0,0))):=Dl
       go_upto_region 13 with fail
       rw [<-hU];clear hU p0 p1 p2 p3 p4 p5 p6 r0 r1 r2 r3 r4 r5 r6 g0 g1 g2 g3 g4 g5 g6;go_wp2
       go_roundw
       case rel=>exact ⟨c+1,d+1,fs,by go_num,by go_num,by omega,by omega,by omega,bQ.out,Dl.out,HQ.out,cG.out.2⟩
       case measure=>simp [intOf];omega
    obtain rfl:d=m:=by omega
    have GQ:k+d=ds.length:=by have:=HM.out;omega
    have HQ:Hid (es.take c=Rf ds):=by
     have:=en.out
     rwa [GQ,QM] at this
    have kp:c<ds.length:=by omega
    have mE:Hid ((Rf ds).length=c):=by
     show _=_;rw [<-HQ.out,RW,HL.out];omega
    obtain ⟨q,hq⟩:∃q,ds.length-c=q:=⟨_,rfl⟩;have jJ:0<q:=by omega
    have hsz:(Q2 es).size=ds.length*7:=by rw [U0,HL.out]
    have bv4:Hid (∀ty,∃vs,(Builtin.clear_ #[27] ty #[.slice (some ⟨blk,c*7,none⟩) q q]).run Tryz.prog wr= .ok (.tuple #[]) (wr.setCells blk (c*7) vs)):=λty=>zd1 wr ty blk (c*7) q q jJ (λt ht=>by
     have hlt:c*7+t<(Q2 es).size:=by rw [hsz];omega
     rw [P5 nE.out.2 (Rm hlt)]
     rfl) (λt _=>Pp nE.out.2)
    have tP:Hid (∀vs,Kx blk w (wr.setCells blk (c*7) vs)/\∃cur,(wr.setCells blk (c*7) vs).heap[blk]? =some (.cells cur 53 (0,0))/\cur.size=ds.length*7/\∀j (h:j<(Rf ds).length) i,i<7->cur[j*7+i]? =(ST (Rf ds)[j])[i]?):=λvs=>by
     obtain ⟨cur,h1,h0,h2⟩:=MV vs (c*7) wr _ nE.out.2;refine ⟨mz0 vs _ wr nE.out.1,cur,h1,by rw [h0,U0,HL.out],λj hj i hi=> ?_⟩;have bh4:j<c:=by have:=mE.out;omega
     have yz:j<es.length:=by have:=HL.out;omega
     rw [h2 _ (by omega),TG es j yz i hi];have:(Rf ds)[j]=es[j]:=by
      have h3:(Rf ds)[j]? =es[j]? :=by rw [<-HQ.out,ZH,Pc bh4]
      rw [PR hj,PR yz] at h3;exact Qs h3
     rw [this]
    have c1:(c:Int)<=(ds.length:Int):=by omega
    have c2:(0:Int)<=(c:Int):=by omega
    obtain ⟨vs,bg⟩:=bv4.out 0;clear bP GQ hsz;go_wp2;go_ret;exact ⟨by rw [mE.out];rfl,tP.out vs⟩
 obtain rfl:k=ds.length:=by omega
 have HE:Hid (Rf ds=ds):=by
  have:=HC.out
  rwa [QM] at this
 go_wp2;go_ret;exact bP.out _ HK.out.1 HK.out.2 HE.out
end
theorem UD (k:Kn)(a b:Cs):Q1 k a b=true↔(O' k a.1).2.1<(O' k b.1).2.1\/((O' k a.1).2.1=(O' k b.1).2.1/\a.2<b.2):=by
 simp [Q1]
theorem NE (k:Kn)(a:Cs):Q1 k a a=false:=by
 cases h:Q1 k a a with
 | false=>rfl
 | true=>rw [UD] at h;omega
theorem JG (k:Kn){a b c:Cs}(h:Q1 k a b=true)(h':Q1 k b c=true):Q1 k a c=true:=by
 rw [UD] at *
 omega
theorem zu1 (k:Kn){a b c:Cs}(h:Q1 k a b=false)(h':Q1 k b c=false):Q1 k a c=false:=by
 cases h2:Q1 k a c with
 | false=>rfl
 | true=>
  rw [UD] at h2;have h3:¬Q1 k a b=true:=by simp [h]
  have h4:¬Q1 k b c=true:=by simp [h']
  rw [UD] at h3 h4;omega
theorem zv1 (k:Kn){a b:Cs}(h:Q1 k a b=true):Q1 k b a=false:=by
 cases h2:Q1 k b a with
 | false=>rfl
 | true=>rw [UD] at *;omega
theorem NL (k:Kn)(a b:Cs):decide (TI k a b<0)=Q1 k a b:=by
 have h:=UD k a b;unfold TI TE;cases h2:Q1 k a b with
 | true=>
  rw [h2] at h;have h3:=h.1 rfl;rw [Ol];split<;>(try split)<;>(try split)<;>omega
 | false=>
  rw [h2] at h;have h3:¬_:=λx=>by have:=h.2 x;cases this
  rw [La];intro h4;apply h3;revert h4;split<;>(try split)<;>(try split)<;>intro h4<;>omega
theorem NM (k:Kn):∀(l m:List Cs),l.Pairwise (λa b=>Q1 k a b=true)->m.Pairwise (λa b=>Q1 k a b=true)->(∀x,x∈l↔x∈m)->l=m
 | [],[],_,_,_=>rfl
 | [],b::r,_,_,h=>absurd ((h b).2 (by simp)) (by simp)
 | a::r,[],_,_,h=>absurd ((h a).1 (by simp)) (by simp)
 | a::r,b::s,hl,hm,h=>by
  rw [U5] at hl hm;have dQ:a=b:=by
   rcases Qa.1 ((h a).1 (by simp)) with e | e
   ·exact e
   rcases Qa.1 ((h b).2 (by simp)) with e2 | e2
   ·exact e2.symm
   have h1:=hm.1 a e;have h2:=hl.1 b e2;have:=zv1 k h1;rw [h2] at this;cases this
  subst dQ
  congr 1
  refine NM k r s hl.2 hm.2 λx=>⟨λhx=> ?_,λhx=> ?_⟩
  ·rcases Qa.1 ((h x).1 (RI _ hx)) with e | e
   ·subst e;have:=hl.1 x hx;rw [NE] at this;cases this
   exact e
  rcases Qa.1 ((h x).2 (RI _ hx)) with e | e
  ·subst e;have:=hm.1 x hx;rw [NE] at this;cases this
  exact e
theorem B0 (k:Kn)(c:Cs):∀(l:List Cs),(∀a∈l,Q1 k c a=false->Q1 k a c=false->a=c)->∀x,x∈Rz k c l↔x=c\/x∈l
 | [],_,x=>by simp [Rz]
 | a::r,h,x=>by
  unfold Rz;by_cases h1:Q1 k c a=true
  ·rw [Pc h1];simp
  rw [P7 h1];have mG:Q1 k c a=false:=by simpa using h1
  by_cases h2:Q1 k a c=true
  ·rw [Pc h2,Qa,B0 k c r (λb hb=>h b (RI _ hb)) x,Qa];constructor
   ·rintro (h | h | h)
    ·exact .inr (.inl h)
    ·exact .inl h
    exact .inr (.inr h)
   rintro (h | h | h)
   ·exact .inr (.inl h)
   ·exact .inl h
   exact .inr (.inr h)
  rw [P7 h2];have e:=h a (by simp) mG (by simpa using h2);subst e;simp
theorem nf0 (k:Kn)(c:Cs):∀(l:List Cs),(∀a∈l,Q1 k c a=false->Q1 k a c=false->a=c)->l.Pairwise (λa b=>Q1 k a b=true)->(Rz k c l).Pairwise (λa b=>Q1 k a b=true)
 | [],_,_=>by simp [Rz]
 | a::r,h,hl=>by
  have cj:=U5.1 hl;unfold Rz;by_cases h1:Q1 k c a=true
  ·rw [Pc h1,U5];refine ⟨λb hb=> ?_,hl⟩;rcases Qa.1 hb with rfl | hb
   ·exact h1
   exact JG k h1 (cj.1 b hb)
  rw [P7 h1];by_cases h2:Q1 k a c=true
  ·rw [Pc h2,U5];refine ⟨λb hb=> ?_,nf0 k c r (λb hb=>h b (RI _ hb)) cj.2⟩;rcases (B0 k c r (λb hb=>h b (RI _ hb)) b).1 hb with rfl | hb
   ·exact h2
   exact cj.1 b hb
  rw [P7 h2];exact hl
def Tp (k:Kn)(l:List Cs):Prop:=∀a∈l,∀b∈l,Q1 k a b=false->Q1 k b a=false->a=b
theorem TS (k:Kn):∀(af:List Sp),Tp k (af.map λs=>PA s.2)->(Pg k af).Pairwise (λa b=>Q1 k a b=true)/\∀x,x∈Pg k af↔x∈af.map λs=>PA s.2
 | [],_=>⟨by simp [Pg],by simp [Pg]⟩
 | s::r,h=>by
  obtain ⟨h1,h2⟩:=TS k r (λa ha b hb=>h a (RI _ ha) b (RI _ hb));have hp:∀a∈Pg k r,Q1 k (PA s.2) a=false->Q1 k a (PA s.2)=false->a=PA s.2:=λa ha x y=>(h (PA s.2) (by simp) a (RI _ ((h2 a).1 ha)) x y).symm;refine ⟨nf0 k _ _ hp h1,λx=> ?_⟩;show x∈Rz k (PA s.2) (Pg k r)↔_;rw [B0 k _ _ hp,h2,Re,Qa]
theorem zw1 (l:List Cs):∀x,x∈Rf l↔x∈l:=by
 suffices h:∀(r:List Cs) (acc:List Cs) x,x∈r.foldl (λacc x=>if acc.getLast? =some x then acc else acc++[x]) acc↔x∈acc\/x∈r by
  intro x;have:=h l [] x;simpa [Rf] using this
 intro r
 induction r with
 | nil=>intro acc x;simp
 | cons a r ih=>
  intro acc x;rw [YD,ih,Qa];by_cases h:acc.getLast? =some a
  ·rw [Pc h];have:a∈acc:=List.mem_of_getLast? h;constructor
   ·rintro (h | h)
    ·exact .inl h
    exact .inr (.inr h)
   rintro (h | rfl | h)
   ·exact .inl h
   ·exact .inl this
   exact .inr h
  rw [P7 h,PE,Ra,or_assoc]
theorem zx1 (k:Kn)(l:List Cs)(hA:Tp k l)(hs:l.Pairwise (λa b=>Q1 k b a=false)):(Rf l).Pairwise (λa b=>Q1 k a b=true):=by
 suffices h:∀(r:List Cs) (acc:List Cs),(∀a∈acc,a∈l)->(∀a∈r,a∈l)->acc.Pairwise (λa b=>Q1 k a b=true)->r.Pairwise (λa b=>Q1 k b a=false)->(∀a∈acc,∀b∈r,Q1 k b a=false)->(r.foldl (λacc x=>if acc.getLast? =some x then acc else acc++[x]) acc).Pairwise (λa b=>Q1 k a b=true) by
  exact h l [] (by simp) (λ_ h=>h) (by simp) hs (by simp)
 intro r
 induction r with
 | nil=>intro acc _ _ h _ _;exact h
 | cons a r ih=>
  intro acc Dq hr hp ig hx;rw [U5] at ig;rw [YD];by_cases h:acc.getLast? =some a
  ·rw [Pc h];exact ih acc Dq (λb hb=>hr b (RI _ hb)) hp ig.2 (λb hb c hc=>hx b hb c (RI _ hc))
  rw [P7 h];refine ih _ (λb hb=> ?_) (λb hb=>hr b (RI _ hb)) ?_ ig.2 (λb hb c hc=> ?_)
  ·rcases PE.1 hb with hb | hb
   ·exact Dq b hb
   rw [Ra.1 hb];exact hr a (by simp)
  ·rw [OP];refine ⟨hp,by simp,λb hb c hc=> ?_⟩;rw [Ra.1 hc];cases hlt:Q1 k b a with
   | true=>rfl
   | false=>
    exfalso;have e:=hA b (Dq b hb) a (hr a (by simp)) hlt (hx b hb a (by simp));subst e;rcases JB acc with rfl | ⟨q,z,rfl⟩
    ·simp at hb
    rw [KQ] at hb h hp;have hz:¬z=b:=λe=>h (by rw [e];exact List.getLast?_concat);rcases PE.1 hb with hb | hb
    ·have h1:=(OP.1 hp).2.2 b hb z (by simp);have h2:=hx z (by simp) b (by simp);rw [h1] at h2;cases h2
    exact hz (Ra.1 hb).symm
  rcases PE.1 hb with hb | hb
  ·exact hx b hb c (RI _ hc)
  rw [Ra.1 hb];exact ig.1 c hc
theorem zy1 (k:Kn)(af:List Sp)(l:List Cs)(hp:l.Perm (af.map λs=>PA s.2))(hA:Tp k (af.map λs=>PA s.2))(hs:l.Pairwise (λa b=>Q1 k b a=false)):Rf l=Pg k af:=by
 obtain ⟨h1,h2⟩:=TS k af hA;refine NM k _ _ (zx1 k l (λa ha b hb=>hA a (hp.mem_iff.1 ha) b (hp.mem_iff.1 hb)) hs) h1 λx=> ?_;rw [zw1,h2,hp.mem_iff]
theorem Tryz.info53:(Tryz.prog.info? 53).map (λi=>(i.zero,i.size,i.bytes))=some (some (.agg QY.toArray),7,112):=by kernel_rfl
theorem zf1 (n:Nat):madeCells QY.toArray (n*7)=Q2 (List.replicate n ([],0)):=by
 apply Zj;intro t;by_cases ht:t<n*7
 ·have hd:t / 7<n:=by omega
  have hm:t % 7<7:=by omega
  have e:t=t / 7*7+t % 7:=by omega
  rw [e,TG _ (t / 7) (by simpa using hd) (t % 7) hm,<-e];have:(madeCells QY.toArray (n*7))[t]? =some (QY.toArray[t % 7]!):=by simp [madeCells,ht,QY]
  rw [this,On];generalize t % 7=i at *
  have:i=0\/i=1\/i=2\/i=3\/i=4\/i=5\/i=6:=by omega
  rcases this with rfl | rfl | rfl | rfl | rfl | rfl | rfl<;>rfl
 rw [U2 (by rw [size_madeCells];omega),U2 (by rw [U0];simp;omega)]
theorem zg1 (w:World)(n:Nat)(hn:n<=1000):(Instr.makeSlice 27 (.int .i64 n) (.int .i64 n)).run Tryz.prog w= .ok (.slice (some ⟨w.heap.size,0,none⟩) n n) (w.alloc (.cells (Q2 (List.replicate n ([],0))) 53)):=by
 obtain ⟨i0,hi,c8,bK,bJ⟩:=info_parts Tryz.info53;have:=Y6 (P:=Tryz.prog) w 27 53 i0 _ Tryz.underlying27 hi c8 .i64 .i64 n n (by omega) (Yp _) (by rw [bK];simp;omega) (by rw [bJ];omega) (by omega);rw [<-zf1];have tO:(Value.agg QY.toArray).cells=QY.toArray:=rfl;rw [tO] at this;simpa [bK] using this
theorem zh1 (ds:List Cs)(k:Nat)(hk:k<ds.length)(n:Qg):(Q2 ds).setIfInBounds (k*7) (.string ⟨n.toArray⟩)=Q2 (ds.set k (n,ds[k].2)):=by
 have hs:=U0 ds;apply Zj;intro t;by_cases ht:t<ds.length*7
 ·have hd:t / 7<ds.length:=by omega
  have hm:t % 7<7:=by omega
  have e:t=t / 7*7+t % 7:=by omega
  generalize t / 7=j at *
  generalize t % 7=i at *
  subst e;rw [TG (ds.set k (n,ds[k].2)) j (by simpa using hd) i hm,Q9,TG ds j hd i hm];by_cases hj:j=k
  ·subst hj;rw [YV];have:i=0\/i=1\/i=2\/i=3\/i=4\/i=5\/i=6:=by omega
   rcases this with rfl | rfl | rfl | rfl | rfl | rfl | rfl
   ·rw [Pc (by omega),Pc (by rw [hs];omega)];rfl
   all_goals
    rw [P7 (by omega)];rfl
  rw [Ya (by omega),P7 (by omega)]
 rw [U2 (by simp [hs];omega),U2 (by rw [U0];simp;omega)]
theorem Ve (ds:List Cs)(k:Nat)(hk:k<ds.length)(x:Int):(Q2 ds).setIfInBounds (k*7+1) (.int .i64 x)=Q2 (ds.set k (ds[k].1,x)):=by
 have hs:=U0 ds;apply Zj;intro t;by_cases ht:t<ds.length*7
 ·have hd:t / 7<ds.length:=by omega
  have hm:t % 7<7:=by omega
  have e:t=t / 7*7+t % 7:=by omega
  generalize t / 7=j at *
  generalize t % 7=i at *
  subst e;rw [TG (ds.set k (ds[k].1,x)) j (by simpa using hd) i hm,Q9,TG ds j hd i hm];by_cases hj:j=k
  ·subst hj;rw [YV];have:i=1\/i=0\/i=2\/i=3\/i=4\/i=5\/i=6:=by omega
   rcases this with rfl | rfl | rfl | rfl | rfl | rfl | rfl
   ·rw [Pc (by omega),Pc (by rw [hs];omega)];rfl
   all_goals
    rw [P7 (by omega)];rfl
  rw [Ya (by omega),P7 (by omega)]
 rw [U2 (by simp [hs];omega),U2 (by rw [U0];simp;omega)]
def Sv (cs:List Cs)(i:Nat):List Cs:=cs.take i++List.replicate (cs.length-i) ([],0)
theorem MF (cs:List Cs)(i:Nat)(h:i<=cs.length):(Sv cs i).length=cs.length:=by
 simp [Sv];omega
theorem zj1 (cs:List Cs)(i:Nat)(h:i<cs.length):(Sv cs i)[i]'(by rw [MF cs i (by omega)];exact h)=([],0):=by
 have hl:(cs.take i).length=i:=by simp;omega
 simp only [Sv];rw [WN (by omega),On]
theorem zk1 (cs:List Cs)(i:Nat)(h:i<cs.length):(Sv cs i).set i cs[i]=Sv cs (i+1):=by
 have hl:(cs.take i).length=i:=by simp;omega
 simp only [Sv];rw [List.set_append_right _ _ (by omega),hl,N2,S1,PR h];obtain ⟨m,hm⟩:∃m,cs.length-i=m+1:=⟨cs.length-i-1,by omega⟩;rw [hm,show cs.length-(i+1)=m by omega,List.replicate_succ,PS,T5]
 rfl
theorem zm1 (cs:List Cs):Sv cs cs.length=cs:=by simp [Sv]
theorem zn1 (cs:List Cs):Sv cs 0=List.replicate cs.length ([],0):=by simp [Sv]
def bE (c:SN):List Value:=ST c.1
theorem Kd (x:SN):(bE x).length=7:=rfl
theorem YX (x:SN):∀v∈bE x,v.oneCell'=true:=by
 intro v hv;simp only [bE,ST,Qa,Sf,Si] at hv;rcases hv with rfl | rfl | rfl | rfl | rfl | rfl | rfl<;>rfl
theorem EL [Inhabited SN](w:World)(blk m:Nat)(dk:Array SN)(os:Array Obj)(j:Nat)(hj:j<w.heap.size)(am:j≠blk):(sortWorldK bE 7 w blk 0 m dk os).heap[j]? =w.heap[j]? :=by
 unfold sortWorldK putRowK;rw [heap_grow_old _ _ (by simpa using hj)];have:blk≠j:=λe=>am e.symm;simp [putRow,mapBlock,Sort.ahead,Aj,this]
theorem nc0 [Inhabited SN](w:World)(blk m:Nat)(dk:Array SN)(os:Array Obj):Kx blk w (sortWorldK bE 7 w blk 0 m dk os):=
 ⟨rfl,rfl,rfl,by simp [sortWorldK,putRowK],λj hj am=>EL w blk m dk os j hj am⟩
theorem KG [Inhabited SN](dk:Array SN)(t:Nat)(ht:t<dk.size*7):(flatK bE 7 dk)[t]? =(Q2 (dk.toList.map (·.1)))[t]? :=by
 have hd:t / 7<dk.size:=by omega
 have hm:t % 7<7:=by omega
 have e:t=t / 7*7+t % 7:=by omega
 have h1:(Q2 (dk.toList.map (·.1)))[t]? =(ST ((dk.toList.map (·.1))[t / 7]'(by simpa using hd)))[t % 7]? :=by
  have:=TG (dk.toList.map (·.1)) (t / 7) (by simpa using hd) (t % 7) hm
  rwa [<-e] at this
 rw [h1];have h2:(flatK bE 7 dk)[t]? =some ((bE dk[t / 7]!)[t % 7]!):=by simp [flatK,ht]
 rw [h2,R7,Array.getElem_toList,ZI dk (t / 7) hd];show _=(bE dk[t / 7])[t % 7]?;rw [PR (by rw [Kd];exact hm),ZI (bE dk[t / 7]) (t % 7) (by rw [Kd];exact hm)]
theorem zr1 [Inhabited SN](w:World)(blk m:Nat)(dk:Array SN)(os:Array Obj)(cs:List Cs)(h:w.heap[blk]? =some (.cells (Q2 cs) 53 (0,0)))(hs:dk.size=cs.length):(sortWorldK bE 7 w blk 0 m dk os).heap[blk]? =some (.cells (Q2 (dk.toList.map (·.1))) 53 (0,0)):=by
 have hlt:=PV h;have bf6:putCells id 0 (flatK bE 7 dk) (Q2 cs)=Q2 (dk.toList.map (·.1)):=by
  apply Zj;intro t;by_cases ht:t<dk.size*7
  ·rw [<-KG dk t ht];have h1:t<(Q2 cs).size:=by rw [U0,<-hs];exact ht
   have h2:t<(flatK bE 7 dk).size:=by simpa using ht
   simp only [putCells,Array.getElem?_mapIdx,Rm h1,YM,TD,true_and,Rp,Nat.sub_zero,id];rw [Pc h2,ZI _ t h2,Rm h2]
  rw [U2 (by simp [putCells];rw [U0,<-hs];omega),U2 (by rw [U0];simp;omega)]
 unfold sortWorldK putRowK;rw [heap_grow_old _ _ (by simpa using hlt)];simp [putRow,mapBlock,Sort.ahead,Aj,h,onCells,bf6]
theorem zs1 [Inhabited SN](w:World)(blk:Nat)(d:Array SN)(h:w.heap[blk]? =some (.cells (Q2 (d.toList.map (·.1))) 53 (0,0))):HoldsK bE 7 w blk 0 d:=by
 intro j hj;have aJ:j<d.size*7:=by simpa using hj
 rw [Rp];refine ⟨P5 h ?_,Pp h⟩;rw [<-KG d j aJ,Rm (by simpa using aJ),ZI _ j (by simpa using aJ)]
 rfl
theorem DU (k:Kn):SWO (ltOf λ(x y:SN)=>TI k x.1 y.1) where
 irrefl x:=by
  show decide (TI k x.1 x.1<0)=false;rw [NL,NE]
 trans x y z h1 h2:=by
  have h1:decide (TI k x.1 y.1<0)=true:=h1;have h2:decide (TI k y.1 z.1<0)=true:=h2;show decide (TI k x.1 z.1<0)=true;rw [NL] at *
  exact JG k h1 h2
 ntrans x y z h1 h2:=by
  have h1:decide (TI k x.1 y.1<0)=false:=h1;have h2:decide (TI k y.1 z.1<0)=false:=h2;show decide (TI k x.1 z.1<0)=false;rw [NL] at *
  exact zu1 k h1 h2
theorem zt1 [Inhabited SN](k:Kn)(d d':Array SN)(hp:PermIn 0 d.size d d')(hs:SortedIn (ltOf λ(x y:SN)=>TI k x.1 y.1) 0 d.size d'):d'.size=d.size/\(d'.toList.map (·.1)).Perm (d.toList.map (·.1))/\(d'.toList.map (·.1)).Pairwise (λa b=>Q1 k b a=false):=by
 obtain ⟨h1,_,h3⟩:=hp;have e1:d'.extract 0 d.size=d':=by rw [<-h1];simp
 have e2:d.extract 0 d.size=d:=by simp
 rw [e1,e2] at h3;refine ⟨h1,h3.map _,?_⟩;rw [Yu,NS];intro i j hi hj mF;have aB:i<d'.size:=by simpa using hi
 have aJ:j<d'.size:=by simpa using hj
 have:=hs i j (TD _) mF (by omega);rw [ZI d' i aB,ZI d' j aJ] at this;have this:decide (TI k d'[j].1 d'[i].1<0)=false:=this;rw [NL] at this;simpa using this
section
variable {w:World}
def Xv (w:World)(S:Nat->Prop)(v:Value)(cs:List Cs):Prop:=∃blk cap cur,v= .slice (some ⟨blk,0,none⟩) cs.length cap/\cs.length<=cap/\S blk/\w.heap[blk]? =some (.cells cur 53 (0,0))/\(cur.size=cap*7/\cap<=200)/\∀j (h:j<cs.length) i,i<7->cur[j*7+i]? =(ST cs[j])[i]?
theorem Kx.below {blk B:Nat}{w':World}(h:Kx blk w w')(h1:B<=blk)(h2:B<=w.heap.size):Below B w w':=⟨h.os,h.tape,h.output,h.size,λk hk=>h.block k (by omega) (by omega)⟩
theorem zp1 (l:List Cs):(Rf l).length<=l.length:=by
 suffices h:∀(r acc:List Cs),(r.foldl (λacc x=>if acc.getLast? =some x then acc else acc++[x]) acc).length<=acc.length+r.length by
  simpa [Rf] using h l []
 intro r
 induction r with
 | nil=>intro acc;simp
 | cons a r ih=>
  intro acc;rw [YD];refine PZ (ih _) ?_;split<;>simp<;>omega
theorem zq1 (cs:List Cs)(h:∀c∈cs,c.1.length<140737488355328):∃d:Array SN,d.toList.map (·.1)=cs:=by
 refine ⟨(cs.attachWith _ h).toArray,?_⟩;show (cs.attachWith _ h).map Subtype.val=cs;exact List.attachWith_map_subtype_val h
theorem Ml {S:Nat->Prop}{b:Nat}{k:Kn}(fa:Option Addr)(fl fc:Nat)(sv:Value)(af:List Sp)(hS:∀b,S b->b<w.heap.size)(hM:PP w b k)(hp:Q3 w S sv af)(hbig:af.length<=200)(hA:Tp k (af.map λs=>PA s.2)):
  Calls Tryz.prog 71 #[.agg #[.slice fa fl fc,.map (some b)],sv] w λr w'=>Below w.heap.size w w'/\∃v,r= .returned v/\Xv w' (λb=>w.heap.size<=b/\b<w'.heap.size) v (Pg k af):=by
 obtain ⟨L,hL,ay,dV⟩:=hp.list;have aA:L.length<=200:=by rw [<-hL,Qb] at hbig;exact hbig
 have aT:af.map (λs=>PA s.2)=L.map λs=>PA s.2.2.2:=by
  rw [<-hL,TL]
  rfl
 have gz:=P4 dV;have HS:=P4 hS;have HM:=P4 hM;have HA:=P4 hA;have iW:=P4 aT;obtain ⟨cs,tQ⟩:∃cs,cs=L.map λs=>PA s.2.2.2:=⟨_,rfl⟩;have nF:=P4 tQ;have bg:cs.length=L.length:=by rw [tQ,Qb]
 obtain ⟨ad,cap,rfl,bW⟩:=ay.open;have bR:=P4 bW;have hW:∃W,W=w.alloc (Obj.cells #[.slice fa fl fc,.map (some b)] 69)/\Below w.heap.size w W/\W.heap.size=w.heap.size+1/\W.cell? ⟨w.heap.size,1,none⟩=some (.map (some b)):=⟨_,rfl,(Pb _ _).alloc (P6 _) _,by simp,P0 (Qn w _) rfl⟩;obtain ⟨W,hW,an,aO,d1⟩:=hW;have dD:=Ro an aO d1;have fp:=zg1 W L.length (by omega);rw [aO] at fp;have HX:Hid (Below (w.heap.size+1) W (W.alloc (.cells (Q2 (List.replicate L.length ([],0))) 53))/\(W.alloc (.cells (Q2 (List.replicate L.length ([],0))) 53)).heap[w.heap.size+1]? =some (.cells (Q2 (Sv cs 0)) 53 (0,0))):=by
  have h1:=(Pb W.heap.size W).alloc (P6 _) (.cells (Q2 (List.replicate L.length ([],0))) 53);have h2:=PF W (.cells (Q2 (List.replicate L.length ([],0))) 53);rw [aO] at h1 h2;rw [zn1,bg];exact ⟨h1,h2⟩
 generalize eM:W.alloc (.cells (Q2 (List.replicate L.length ([],0))) 53)=W2 at *
 clear eM ay bW dV hS hL hbig hp an d1 hM hA aT tQ;have Dn:=P4 aO;clear aO;go_enter Tryz.func71,Tryz.ntmps71
 go_upto_region 1 with fail
 rw [<-hW];clear hW;go_wp2
 go_loopw [13] (λiv wr=>∃i:Nat,i<=L.length/\iv= .int .i64 i/\Hid (Below (w.heap.size+1) W wr/\wr.heap[w.heap.size+1]? =some (.cells (Q2 (Sv cs i)) 53 (0,0)))) (λiv _=>L.length-(intOf iv).toNat)
 case atStart=>exact ⟨0,by omega,by go_num,HX.out⟩
 obtain ⟨i,hi,rfl,HT⟩:=hrel;have aV:=P4 (dD.1.trans (HT.1.mono (by omega)));have hsz:w.heap.size+1<wr.heap.size:=PV HT.2;by_cases ag:i<L.length
 ·obtain ⟨g,o,rfl,hc,hr⟩:=bR.out (λe=>by rw [e] at ag;simp at ag);obtain ⟨s0,q1,q2⟩:=hr i ag;have hk:=OZ.of aV.out HS.out;have q1:=(hk.cell (p:=⟨g,o+i*2,none⟩) s0).trans q1;have q2:=(hk.cell (p:=⟨g,o+i*2+1,none⟩) s0).trans q2;obtain ⟨pL,t0,t1,t2,_,_⟩:=((gz.out L[i] (Px ag)).on hk).open;have nG:L[i].2.1<wr.heap.size:=by have:=HS.out _ pL;omega
  have i1:(0:Int)<=(i:Int):=by omega
  have i2:(i:Int)<(L.length:Int):=by omega
  go_upto_region 5 with fail
  have aD:∃W1,W1=wr.alloc (Obj.cells #[.int .i64 L[i].1,.pointer (some ⟨L[i].2.1,L[i].2.2.1,none⟩)] 134)/\Below wr.heap.size wr W1/\W1.heap.size=wr.heap.size+1/\W1.cell? ⟨wr.heap.size,1,none⟩=some (.pointer (some ⟨L[i].2.1,L[i].2.2.1,none⟩)):=⟨_,rfl,(Pb _ _).alloc (P6 _) _,by simp,P0 (Qn wr _) rfl⟩;obtain ⟨W1,aD,hb1,bH,x1⟩:=aD;rw [<-aD];clear aD;have t0:=(hb1.cell (p:=⟨L[i].2.1,L[i].2.2.1,none⟩) nG).trans t0;have t1:=(hb1.cell (p:=⟨L[i].2.1,L[i].2.2.1+1,none⟩) nG).trans t1;have t2:=(hb1.cell (p:=⟨L[i].2.1,L[i].2.2.1+2,none⟩) nG).trans t2;have fW:Hid (Below (w.heap.size+1) W W1/\W1.heap[w.heap.size+1]? =some (.cells (Q2 (Sv cs i)) 53 (0,0))):=⟨HT.1.trans (hb1.mono (by omega)),(hb1.block _ hsz).trans HT.2⟩;have hci:i<cs.length:=by omega
  have aY:i<(Sv cs i).length:=by rw [MF cs i (by omega)];exact hci
  have ig:=U0 (Sv cs i);have y0:=P5 fW.2 (Rm (show i*7<(Q2 (Sv cs i)).size by omega));have y1:=P5 fW.2 (Rm (show i*7+1<(Q2 (Sv cs i)).size by omega));have z0:=Pp (o:=i*7) fW.2;have z1:=Pp (o:=i*7+1) fW.2;have bL:=zj1 cs i hci;have iB:=zk1 cs i hci;have tR:cs[i]=PA L[i].2.2.2:=by
   have:=nF.out;subst this;rw [R7]
  have HN:Hid (L[i].2.2.2.kind=4->(W1.setCell ⟨w.heap.size+1,i*7,none⟩ (.string ⟨L[i].2.2.2.name.toArray⟩)).heap[w.heap.size+1]? =some (.cells (Q2 (Sv cs (i+1))) 53 (0,0))):=λh4=>by
   refine (Q5 fW.2).trans ?_;rw [zh1 (Sv cs i) i aY,bL,<-iB,tR];unfold PA;rw [Pc h4]
  have dJ:Hid (¬L[i].2.2.2.kind=4->(W1.setCell ⟨w.heap.size+1,i*7+1,none⟩ (.int .i64 L[i].2.2.2.num)).heap[w.heap.size+1]? =some (.cells (Q2 (Sv cs (i+1))) 53 (0,0))):=λh4=>by
   refine (Q5 fW.2).trans ?_;rw [Ve (Sv cs i) i aY,bL,<-iB,tR];unfold PA;rw [P7 h4]
  generalize (Q2 (Sv cs i))[i*7]=Do at y0;generalize (Q2 (Sv cs i))[i*7+1]=GR at y1;generalize L[i].2.2.2.kind=ki at *
  generalize L[i].2.2.2.num=nu at *
  generalize (⟨L[i].2.2.2.name.toArray⟩:ByteArray)=na at *
  clear bH hb1 ig q1 q2 hk hr bL iB tR aY;by_cases h4:ki=4
  ·subst h4;have HN:=HN.out rfl;have HN:=P4 HN;have aS:Hid (Below (w.heap.size+1) W (W1.setCell ⟨w.heap.size+1,i*7,none⟩ (.string na))):=fW.1.setCell (p:=⟨w.heap.size+1,i*7,none⟩) (P6 _) _;go_wp2
   go_roundw
   case rel=>exact ⟨i+1,ag,by go_num,aS.out,HN.out⟩
   case measure=>simp [intOf];omega
  have wa:(ki==4)=false:=by simpa using h4
  have HN:=P4 (dJ.out h4);have aS:Hid (Below (w.heap.size+1) W (W1.setCell ⟨w.heap.size+1,i*7+1,none⟩ (.int .i64 nu))):=fW.1.setCell (p:=⟨w.heap.size+1,i*7+1,none⟩) (P6 _) _;go_wp2
  go_roundw
  case rel=>exact ⟨i+1,ag,by go_num,aS.out,HN.out⟩
  case measure=>simp [intOf];omega
 obtain rfl:i=L.length:=by omega
 have au:wr.heap[w.heap.size+1]? =some (.cells (Q2 cs) 53 (0,0)):=by
  have:=HT.2
  rwa [<-bg,zm1] at this
 obtain ⟨d,hd⟩:=zq1 cs (λc hc=>by
  rw [nF.out] at hc;obtain ⟨s,hs,rfl⟩:=PI.1 hc;unfold PA;split
  ·exact (gz.out s hs).open.2.2.2.2.1
  simp)
 have qH:d.size=L.length:=by
  have:=congrArg List.length hd;rw [Qb] at this;simpa [bg] using this
 have ae7:Inhabited SN:=⟨⟨([],0),by simp⟩⟩;have qI:PP wr b k:=HM.on (aV.block b (Mv.lt HM.out));have dS:=Mv.lt HM.out;have d1:=(HT.1.cell (p:=⟨w.heap.size,1,none⟩) (by simp)).trans dD.2.2;have CS:=AnyQ.slices_SortFunc (P:=Tryz.prog) Tryz.laysort 7 Tryz.isAgg53 Tryz.sizeOf53 bE Kd YX (λx y=>TI k x.1 y.1) (DU k) 87 #[.pointer (some ⟨w.heap.size,0,none⟩)] (w.heap.size+1) 0 L.length d wr (enters_of Tryz.func87 (by kernel_rfl) rfl)
  (λm os dk sL x y=>za1 k b w.heap.size x y _ (qI.on (EL wr _ m dk os b (by omega) (by omega))) ((Ut (w:=wr) (EL wr _ m dk os w.heap.size (by omega) (by omega))).trans d1) (by have:=(nc0 wr (w.heap.size+1) m dk os).size;omega))
  (zs1 wr _ d (by rw [hd];exact au)) hsz (by omega)
 change Calls Tryz.prog 86 _ _ _ at CS
 rw [qH] at CS;have HG:Hid (∀d' n os,Sort.PermIn 0 L.length d d'->Sort.SortedIn (ltOf λ(x y:SN)=>TI k x.1 y.1) 0 L.length d'->∃ds,ds.length=L.length/\(sortWorldK bE 7 wr (w.heap.size+1) 0 n d' os).heap[w.heap.size+1]? =some (.cells (Q2 ds) 53 (0,0))/\Below w.heap.size w (sortWorldK bE 7 wr (w.heap.size+1) 0 n d' os)/\Rf ds=Pg k af):=λd' n os h1 h2=>by
  rw [<-qH] at h1 h2;obtain ⟨g1,g2,g3⟩:=zt1 k d d' h1 h2;refine ⟨d'.toList.map (·.1),by simp;omega,zr1 wr _ n d' os cs au (by omega),aV.trans ((nc0 wr _ n d' os).below (by omega) aV.size),?_⟩;refine zy1 k af _ ?_ HA.out g3;rw [iW.out,<-nF.out,<-hd];exact g2
 clear qI dS gz bR hd HA iW nF;generalize GS:(λ(x y:SN)=>TI k x.1 y.1)=cf at *
 clear GS
 go_upto_region 10 with (first | (go_at_call 86;(with_reducible refine Pe CS ?_);rintro e' w1 ⟨rfl,d',n,os,hp1,hp2,rfl⟩))
 obtain ⟨ds,iT,dU,eN,hcc⟩:=HG.out d' n os hp1 hp2;generalize sortWorldK bE 7 wr (w.heap.size+1) 0 n d' os=w1 at *
 have CC:=ze1 ds (w.heap.size+1) w1 dU (by omega);rw [iT,hcc] at CC;have dm:=P4 eN;have hlt:=PV dU;clear dU eN hp1 hp2 CS
 go_wp2_with (go_at_call 90;(with_reducible refine Pe CC ?_);rintro e' w2 ⟨rfl,hk2,cur,hc2,hc0,hc3⟩)
 go_ret;refine ⟨dm.trans (hk2.below (by omega) dm.size),_,rfl,w.heap.size+1,L.length,cur,rfl,?_,⟨by omega,PV hc2⟩,hc2,⟨hc0,aA⟩,hc3⟩;rw [<-hcc,<-iT];exact zp1 ds
end
