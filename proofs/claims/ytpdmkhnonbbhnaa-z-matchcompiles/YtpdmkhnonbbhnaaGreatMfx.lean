import Derived.Test.YtpdmkhnonbbhnaaGreatZx
import Derived.Test.YtpdmkhnonbbhnaaGreatMex
namespace Go.Proofs.YtpdmkhnonbbhnaaGreat
open Go.RowKit Go
set_option linter.unusedSimpArgs false
section
section
variable {P:Program}{al:Array Oper}{Q:Exit->Act->World->Prop}{md:Region.Mode}{S:World->Prop}{L:Nat}
def QV (m n:Nat):Array Bool:=((List.range n).map λi=>m.testBit i).toArray
theorem Rk {i n m m':Nat}{oi:Oper}{v:Value}{fuel:Nat}{a:Act}{w:World}(d:Option Tmp)(hi:al[i]? =some oi)(hd:oi.dst=d)(hl:(QV m n).setIfInBounds i true=QV m' n)
  (hs:Region.noSelect al=true) (hf:Region.free md al (QV m n) i=true) (hr:(Region.ready md al (QV m n)).contains i=true) (hL:Sl md al L i=true)
  (hQ:∀c a w,Q (.panic c) (a.put d v) w->Q (.panic c) a w) (hy:YieldsIf P al S oi v a) (hS:S w)
  (h:Sz P md al Q S L fuel (QV m' n) (a.put d v) w):Sz P md al Q S L (fuel+1) (QV m n) a w:=by
 subst hd;exact yj1 hi hs hf hr hL hQ hy hS (by rw [hl];exact h)
theorem Y4 {i n m m':Nat}{o:Oper}{fuel:Nat}{a:Act}{w:World}(hr:Region.ready md al (QV m n)=[i])(ho:al[i]? =some o)(hl:(QV m n).setIfInBounds i true=QV m' n)
  (h:∀K':Act->World->Prop,Shut (∀a w,(i≠L->S w)->Sz P md al Q S L fuel (QV m' n) a w->K' a w)->if Region.wanted o (yielded al a.tmps)=true then Oper.wp P o a w K' Q else K' (a.put o.dst undef) w):Sz P md al Q S L (fuel+1) (QV m n) a w:=by
 refine ⟨λh0=> ?_,λj hj=> ?_⟩
 ·rw [hr] at h0;cases h0
 rw [hr] at hj;obtain rfl:=Ra.1 hj;exact wpOp_step ho λK' hK=>h K' λa w hS hW=>hK a w ⟨hS,by rw [hl];exact hW⟩
theorem ma0 {i j n m mi mj:Nat}{oi oj:Oper}{fuel:Nat}{a:Act}{w:World}(hr:Region.ready md al (QV m n)=[i,j])(bi4:al[i]? =some oi)(jZ:al[j]? =some oj)(Bg:(QV m n).setIfInBounds i true=QV mi n)(av5:(QV m n).setIfInBounds j true=QV mj n)
  (h1:∀K':Act->World->Prop,Shut (∀a w,(i≠L->S w)->Sz P md al Q S L fuel (QV mi n) a w->K' a w)->if Region.wanted oi (yielded al a.tmps)=true then Oper.wp P oi a w K' Q else K' (a.put oi.dst undef) w)
  (h2:∀K':Act->World->Prop,Shut (∀a w,(j≠L->S w)->Sz P md al Q S L fuel (QV mj n) a w->K' a w)->if Region.wanted oj (yielded al a.tmps)=true then Oper.wp P oj a w K' Q else K' (a.put oj.dst undef) w):Sz P md al Q S L (fuel+1) (QV m n) a w:=by
 refine ⟨λh0=> ?_,λk hk=> ?_⟩
 ·rw [hr] at h0;cases h0
 rw [hr] at hk;rcases Qa.1 hk with rfl | hk
 ·exact wpOp_step bi4 λK' hK=>h1 K' λa w hS hW=>hK a w ⟨hS,by rw [Bg];exact hW⟩
 obtain rfl:=Ra.1 hk;exact wpOp_step jZ λK' hK=>h2 K' λa w hS hW=>hK a w ⟨hS,by rw [av5];exact hW⟩
theorem CZ {id n:Nat}{a:Act}{w:World}(hm:P.follows .mixedOrders=true)(hn:al.size=n)(hl:Array.replicate n false=QV 0 n)(h:Sz P .any al Q S L n (QV 0 n) a w.drew):(Code.region id al true).wp P Q a w:=by
 subst hn;exact wp_region_any hm (JH _ _ _ _ (by rw [hl];exact h))
end
theorem Jt {e b t:Nat}(T:Ty t e 1 b){al:Array Oper}{o:Oper}{a:Act}{K:Act->World->Prop}{Q:Exit->Act->World->Prop}{E:Prop}{w:World}(ez:o.guard=none)(s x:Operand)
  (ho:o.op= .call {callee:= .builtin .append,args:= #[s,x],argTypes:= #[t,t]}) {base n:Nat}{v:Value}{xs ys:List Value}{ad:Option Addr}{c:Nat}(hs:a.eval s=v) (hown:w.ownsRow base e 1 v n xs) (hx:a.eval x= .slice ad ys.length c)
  (gd:ys=[]\/∃g q,ad=some ⟨g,q,none⟩/\∀j (h:j<ys.length),w.cell? ⟨g,q+j,none⟩=some ys[j]) (h1:∀u∈ys,u.oneCell'=true) (hl:n+ys.length<=1000000) (by4:base<=w.heap.size)
  (h:∀v' w',w'.ownsRow base e 1 v' (n+ys.length) (xs++ys)->w.grownBy w' v.ownBlock->(v'.ownBlock=v.ownBlock\/∃g,v'.ownBlock=some g/\w.heap.size<=g)->K (a.put o.dst v') w'):
  if Region.wanted o (yielded al a.tmps)=true then Oper.wp Tryz.prog o a w K Q else E:=by
 obtain ⟨i,z,hi,hz,hk,pw,px⟩:=T.info;by_cases h0:ys=[]
 ·subst h0;have hr:=Mg (t:=t) (ty:=o.type) T.slice hi hown ad c;have hw:Region.wanted o (yielded al a.tmps)=true:=by simp [Region.wanted,ez]
  rw [Pc hw];unfold Oper.wp execOp;simp only [ho,resolve,invoke,builtin,Sem.run_bind,Sem.run_pure,Result.andThen_ok,List.map_toArray,Re,List.map_nil,hs,hx,YO,hr];exact h v w (by simpa using hown) ⟨rfl,rfl,rfl,P6 _,λ_ _ _=>rfl⟩ (.inl rfl)
 rcases gd with gd | ⟨g,q,rfl,hc⟩
 ·exact absurd gd h0
 have hsm:=T.small;have du:(n+ys.length)*b<=140737488355328:=by
  have:=KH hl hsm;omega
 refine step_append_lies w ez s x t ho base e i z 1 b T.slice hi hz hk pw px (by decide) v n xs hs hown ⟨g,q,none⟩ ys.length c ys hx (by omega) (λj u hu=> ?_) h1 (Tk.2 h0) (by unfold maxLen;omega) du by4 _ rfl ?_
 ·have hj:j<ys.length:=by
   rcases Sk j ys.length with h | h
   ·exact h
   rw [Z3 h] at hu;cases hu
  rw [PR hj] at hu;have:=hc j hj;rw [Qs hu] at this;by_cases ej:j=0
  ·subst ej;simpa [Addr.add] using this
  simpa [Addr.add,ej] using this
 intro g' cap' w' k1 k2 k3 _;refine h _ w' k1 k2 ?_;rcases k3 with k3 | k3
 ·exact .inl k3.symm
 exact .inr ⟨g',rfl,Yy k3.symm⟩
theorem mb0 {e:Nat}(w:World)(base:Nat)(hb:base<=w.heap.size)(c:Array Value)(n:Nat)(hc:c.size=n)(hn:n<=1000000):(w.alloc (.cells c e)).ownsRow base e 1 (.slice (some ⟨w.heap.size,0,none⟩) 0 n) 0 []:=by
 refine ⟨rfl,.inr ⟨w.heap.size,n,c,rfl,hb,PF w _,TD _,by unfold maxLen;omega,by omega,by simp⟩⟩
theorem mc0 {e b t:Nat}(T:Ty t e 1 b)(w:World)(n:Nat)(hn:n<=1000000):∃c,(Instr.makeSlice t (.int .i64 0) (.int .i64 n)).run Tryz.prog w= .ok (.slice (some ⟨w.heap.size,0,none⟩) 0 n) (w.alloc (.cells c e))/\c.size=n:=by
 obtain ⟨i,z,hi,hz,hk,pw,px⟩:=T.info;have ab2:b*n<=1000*1000000:=KH T.small hn;have hbi:(b:Int)*(n:Int)<=281474976710656:=by
  rw [<-Int.natCast_mul];omega
 have:=Y6 (P:=Tryz.prog) w t e i z T.slice hi hz .i64 .i64 0 n (by omega) (by omega) (by rw [hk];simp;omega) (by rw [pw];exact hbi) (by omega);rw [hk] at this;refine ⟨_,this,?_⟩;simp [madeCells,px]
end
section
section
variable {P:Program}{al:Array Oper}{Q:Exit->Act->World->Prop}{md:Region.Mode}{S:World->Prop}{L:Nat->Bool}
def U8 (P:Program)(md:Region.Mode)(al:Array Oper)(Q:Exit->Act->World->Prop)(S:World->Prop)(L:Nat->Bool):Nat->Array Bool->Act->World->Prop
 | 0,ah,a,w=>Region.ready md al ah=[]/\Q .normal a w
 | fuel+1,ah,a,w=>(Region.ready md al ah=[]->Q .normal a w)/\∀i∈Region.ready md al ah,wpOp P al Q i (λa' w'=>(L i=false->S w->S w')/\U8 P md al Q S L fuel (ah.setIfInBounds i true) a' w') a w
theorem MP:∀(fuel:Nat) (ah:Array Bool) (a:Act) (w:World),U8 P md al Q S L fuel ah a w->wpAny P md al Q fuel ah a w
 | 0,_,_,_,h=>h
 | fuel+1,_,_,_,h=>⟨h.1,λi hi=>wpOp_mono (λa' w' h'=>MP fuel _ a' w' h'.2) (h.2 i hi)⟩
theorem yv1 {i:Nat}{oi:Oper}{v:Value}(hi:al[i]? =some oi)(cS:∀(j:Nat) (o:Oper) cs b,al[j]? =some o->o.op≠ .select cs b)
  (hQ:∀c a w,Q (.panic c) (a.put oi.dst v) w->Q (.panic c) a w) (hL:∀j oL,L j=true->al[j]? =some oL->∃e∈oL.after,Region.binds md e=true/\e.on=i):
  ∀(fuel:Nat) (ah:Array Bool) (a:Act) (w:World),
   (∀j oj,al[j]? =some oj->j≠i->ah.getD j true=false->(∀e∈oj.after,Region.binds md e=true->e.on≠i)->oi.apart al oj=true)->
   i∈Region.ready md al ah->YieldsIf P al S oi v a->S w->
   U8 P md al Q S L fuel (ah.setIfInBounds i true) (a.put oi.dst v) w->U8 P md al Q S L (fuel+1) ah a w:=by
 intro fuel
 induction fuel with
 | zero=>
  intro ah a w _ hr hy hS H;refine ⟨λh=>(by rw [h] at hr;cases hr),λj hj=> ?_⟩;by_cases bZ:j=i
  ·subst bZ;exact hy.wpOp hi hS ⟨λ_ h=>h,H⟩
  have:=ready_mono hj bZ;rw [H.1] at this;cases this
 | succ fuel ih=>
  intro ah a w ft hr hy hS H;refine ⟨λh=>(by rw [h] at hr;cases hr),λj hj=> ?_⟩;by_cases bZ:j=i
  ·subst bZ;exact hy.wpOp hi hS ⟨λ_ h=>h,H⟩
  have h1:=H.2 j (ready_mono hj bZ);obtain ⟨jf,oj,jZ,aQ⟩:=mem_ready.1 hj;have kj:∀e∈oj.after,Region.binds md e=true->e.on≠i:=λe he hb yt=>by
   have h1:=aQ e he hb;have h0:=(mem_ready.1 hr).1;rw [yt] at h1;rcases Sk i ah.size with h' | h'
   ·simp [h'] at h0 h1;rw [h0] at h1;cases h1
   simp [U2 h'] at h1
  have Bo:L j=false:=by
   cases hl:L j with
   | false=>rfl
   | true=>
    obtain ⟨e,he,hb,ho⟩:=hL j oj hl jZ;exact absurd ho (kj e he hb)
  have h2:=wpOp_putIf jZ (ft j oj jZ bZ jf kj) (λcs b=>cS i oi cs b hi) (λcs b=>cS j oj cs b jZ) hQ hy h1;have gu:∀k ok,al[k]? =some ok->k≠i->(ah.setIfInBounds j true).getD k true=false->
    (∀e∈ok.after,Region.binds md e=true->e.on≠i)->oi.apart al ok=true:=λk ok hk yu kS hno=>by
   refine ft k ok hk yu ?_ hno;by_cases sG:j=k
   ·subst sG;exact jf
   rw [getD_set_ne true sG] at kS;exact kS
  refine wpOp_mono (λa' w' h3=>⟨h3.2.1,ih (ah.setIfInBounds j true) a' w' gu (ready_mono hr (Ne.symm bZ)) h3.1 (h3.2.1 Bo hS) ?_⟩) h2;rw [Dg _ _ bZ];exact h3.2.2
def YU (md:Region.Mode)(al:Array Oper)(L:Nat->Bool)(i:Nat):Bool:=(List.range al.size).all λj=> !L j || Sl md al j i
theorem Lc {i n m m':Nat}{oi:Oper}{v:Value}{fuel:Nat}{a:Act}{w:World}(d:Option Tmp)(hi:al[i]? =some oi)(hd:oi.dst=d)(hl:(QV m n).setIfInBounds i true=QV m' n)
  (hs:Region.noSelect al=true) (hf:Region.free md al (QV m n) i=true) (hr:(Region.ready md al (QV m n)).contains i=true) (hL:YU md al L i=true)
  (hQ:∀c a w,Q (.panic c) (a.put d v) w->Q (.panic c) a w) (hy:YieldsIf P al S oi v a) (hS:S w)
  (h:U8 P md al Q S L fuel (QV m' n) (a.put d v) w):U8 P md al Q S L (fuel+1) (QV m n) a w:=by
 subst hd;refine yv1 hi (Region.noSelect_spec hs) hQ (λj oL hj ho=> ?_) fuel _ a w (Region.free_spec hi hf) (by simpa using hr) hy hS (by rw [hl];exact h);have hlt:j<al.size:=(Oa.1 ho).1;have h1:=TK.1 hL j (T2.2 hlt);rw [hj] at h1;have h2:Sl md al j i=true:=by simpa using h1
 unfold Sl at h2;rw [ho] at h2;obtain ⟨e,he,hb⟩:=Ac.1 h2;simp only [Tj,WY] at hb;exact ⟨e,he,hb.1,hb.2⟩
theorem yw1 {i:Nat}{oi:Oper}{v:Value}(hi:al[i]? =some oi)(cS:∀(j:Nat) (o:Oper) cs b,al[j]? =some o->o.op≠ .select cs b)
  (hQ:∀c a w,Q (.panic c) (a.put oi.dst v) w->Q (.panic c) a w):
  ∀(fuel:Nat) (ah:Array Bool) (a:Act) (w:World),
   (∀j oj,al[j]? =some oj->j≠i->ah.getD j true=false->(∀e∈oj.after,Region.binds md e=true->e.on≠i)->oi.apart al oj=true)->
   i∈Region.ready md al ah->YieldsIf P al (λ_=>True) oi v a->
   U8 P md al Q S L fuel (ah.setIfInBounds i true) (a.put oi.dst v) w->U8 P md al Q S L (fuel+1) ah a w:=by
 intro fuel
 induction fuel with
 | zero=>
  intro ah a w _ hr hy H;refine ⟨λh=>(by rw [h] at hr;cases hr),λj hj=> ?_⟩;by_cases bZ:j=i
  ·subst bZ;exact hy.wpOp hi trivial ⟨λ_ h=>h,H⟩
  have:=ready_mono hj bZ;rw [H.1] at this;cases this
 | succ fuel ih=>
  intro ah a w ft hr hy H;refine ⟨λh=>(by rw [h] at hr;cases hr),λj hj=> ?_⟩;by_cases bZ:j=i
  ·subst bZ;exact hy.wpOp hi trivial ⟨λ_ h=>h,H⟩
  have h1:=H.2 j (ready_mono hj bZ);obtain ⟨jf,oj,jZ,aQ⟩:=mem_ready.1 hj;have kj:∀e∈oj.after,Region.binds md e=true->e.on≠i:=λe he hb yt=>by
   have h1:=aQ e he hb;have h0:=(mem_ready.1 hr).1;rw [yt] at h1;rcases Sk i ah.size with h' | h'
   ·simp [h'] at h0 h1;rw [h0] at h1;cases h1
   simp [U2 h'] at h1
  have h2:=wpOp_putIf jZ (ft j oj jZ bZ jf kj) (λcs b=>cS i oi cs b hi) (λcs b=>cS j oj cs b jZ) hQ hy h1;have gu:∀k ok,al[k]? =some ok->k≠i->(ah.setIfInBounds j true).getD k true=false->
    (∀e∈ok.after,Region.binds md e=true->e.on≠i)->oi.apart al ok=true:=λk ok hk yu kS hno=>by
   refine ft k ok hk yu ?_ hno;by_cases sG:j=k
   ·subst sG;exact jf
   rw [getD_set_ne true sG] at kS;exact kS
  refine wpOp_mono (λa' w' h3=>⟨h3.2.1,ih (ah.setIfInBounds j true) a' w' gu (ready_mono hr (Ne.symm bZ)) h3.1 ?_⟩) h2;rw [Dg _ _ bZ];exact h3.2.2
theorem T4 {i n m m':Nat}{oi:Oper}{v:Value}{fuel:Nat}{a:Act}{w:World}(d:Option Tmp)(hi:al[i]? =some oi)(hd:oi.dst=d)(hl:(QV m n).setIfInBounds i true=QV m' n)
  (hs:Region.noSelect al=true) (hf:Region.free md al (QV m n) i=true) (hr:(Region.ready md al (QV m n)).contains i=true)
  (hQ:∀c a w,Q (.panic c) (a.put d v) w->Q (.panic c) a w) (hy:YieldsIf P al (λ_=>True) oi v a)
  (h:U8 P md al Q S L fuel (QV m' n) (a.put d v) w):U8 P md al Q S L (fuel+1) (QV m n) a w:=by
 subst hd;exact yw1 hi (Region.noSelect_spec hs) hQ fuel _ a w (Region.free_spec hi hf) (by simpa using hr) hy (by rw [hl];exact h)
theorem Nf {i n m m':Nat}{o:Oper}{fuel:Nat}{a:Act}{w:World}(hr:Region.ready md al (QV m n)=[i])(ho:al[i]? =some o)(hl:(QV m n).setIfInBounds i true=QV m' n)
  (h:∀K':Act->World->Prop,Shut (∀a' w',(L i=false->S w->S w')->U8 P md al Q S L fuel (QV m' n) a' w'->K' a' w')->if Region.wanted o (yielded al a.tmps)=true then Oper.wp P o a w K' Q else K' (a.put o.dst undef) w):U8 P md al Q S L (fuel+1) (QV m n) a w:=by
 refine ⟨λh0=> ?_,λj hj=> ?_⟩
 ·rw [hr] at h0;cases h0
 rw [hr] at hj;obtain rfl:=Ra.1 hj;exact wpOp_step ho λK' hK=>h K' λa w hS hW=>hK a w ⟨hS,by rw [hl];exact hW⟩
theorem yx1 {ah:Array Bool}{a:Act}{w:World}(hr:Region.ready md al ah=[])(h:Q .normal a w):∀fuel,U8 P md al Q S L fuel ah a w
 | 0=>⟨hr,h⟩
 | _+1=>⟨λ_=>h,by rw [hr];simp⟩
theorem yy1 {id n:Nat}{a:Act}{w:World}(hm:P.follows .mixedOrders=true)(hn:al.size=n)(hl:Array.replicate n false=QV 0 n)(h:U8 P .any al Q S L n (QV 0 n) a w.drew):(Code.region id al true).wp P Q a w:=by
 subst hn;exact wp_region_any hm (MP _ _ _ _ (by rw [hl];exact h))
end
end
