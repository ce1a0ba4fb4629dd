import Derived.Test.YtpdmkhnonbbhnaaGreatHp
import Derived.Test.YtpdmkhnonbbhnaaGreatRows
import Derived.Deep.Slices
import Derived.SizedLaws
import Derived.ProofKit
import Derived.OpenShut
namespace Go.Proofs.YtpdmkhnonbbhnaaGreat
open Go.ChangeShapes Go.WideShapes Go.RowKit
set_option maxRecDepth 100000
section
variable {W:World}
theorem Tryz.own:ownKnob Tryz.prog.godebug=none:=by kernel_rfl
theorem Tryz.laidOut:laidOutB Tryz.prog=true:=by kernel_rfl
theorem Tryz.cells50:Tryz.prog.cellsOf 50=4:=by kernel_rfl
theorem Tryz.cells48:Tryz.prog.cellsOf 48=2:=by kernel_rfl
theorem Tryz.cells3:Tryz.prog.cellsOf 3=1:=by kernel_rfl
theorem Tryz.cells9:Tryz.prog.cellsOf 9=1:=by kernel_rfl
theorem Tryz.cells31:Tryz.prog.cellsOf 31=1:=by kernel_rfl
theorem Tryz.cells26:Tryz.prog.cellsOf 26=1:=by kernel_rfl
theorem Tryz.cells46:Tryz.prog.cellsOf 46=1:=by kernel_rfl
theorem Tryz.bytes50:Tryz.prog.bytesOf 50=56:=by kernel_rfl
theorem Tryz.bytes48:Tryz.prog.bytesOf 48=48:=by kernel_rfl
theorem Tryz.bytes3:Tryz.prog.bytesOf 3=8:=by kernel_rfl
theorem Tryz.bytes9:Tryz.prog.bytesOf 9=16:=by kernel_rfl
theorem Tryz.bytes31:Tryz.prog.bytesOf 31=24:=by kernel_rfl
theorem VA (g o k:Nat):(⟨g,o,none⟩:Addr).add k=⟨g,o+k,none⟩:=by
 unfold Addr.add;split
 ·rename_i h;rw [h];rfl
 rfl
theorem Xm {w:World}{a:Addr}{v:Value}(h:w.cell? a=some v):a=⟨a.block,a.off,none⟩:=by
 obtain ⟨b,o,s⟩:=a;cases s with
 | none=>rfl
 | some s=>
  unfold World.cell? at h;split at h
  ·simp at h
  cases h
theorem Jv {H:Type}{P:Program}{e:TypeId}:∀{l:List (DataW H)}{d:DataW H},d∈l->∀x∈d.weights P e,x∈DataW.weightsAll P e l
 | a::r,d,hd,x,hx=>by
  simp only [DataW.weightsAll,PE];rcases Qa.1 hd with rfl | h
  ·exact Or.inl hx
  exact Or.inr (Jv h x hx)
theorem NZ {α:Type}{l:List α}(h:l.length=1):∃a,l=[a]:=by
 match l,h with
 | [a],_=>exact ⟨a,rfl⟩
theorem ZU {α:Type}{l:List α}(h:l.length=2):∃a b,l=[a,b]:=by
 match l,h with
 | [a,b],_=>exact ⟨a,b,rfl⟩
theorem ZR {α:Type}{l:List α}(h:l.length=4):∃a b c d,l=[a,b,c,d]:=by
 match l,h with
 | [a,b,c,d],_=>exact ⟨a,b,c,d,rfl⟩
theorem ZF {H:Type}{enc:TypeId×Value->H}{α:Type}{t e:TypeId}(k bytes:Nat)(Q:Nat->Nat->α->Prop)(ht:Tryz.prog.underlying t=some (.slice e))(hk:Tryz.prog.cellsOf e=k)(ud:0<k)(hb:Tryz.prog.bytesOf e=bytes)(cu:0<bytes){fuel:Nat}{cs:List Value}{x:DataW H×List MemPlace}(h:DataW.trod enc Tryz.prog W 0 (λ_=>true) true fuel t cs=some x)(hz:∀y∈x.1.weights Tryz.prog t,y<=reachBytes)
  (bi5:∀(n:Nat) (iK:List Value) (x':DataW H×List MemPlace),fuel=n+1->DataW.trod enc Tryz.prog W 0 (λ_=>true) true n e iK=some x'->(∀y∈x'.1.weights Tryz.prog e,y<=reachBytes)->iK.length=k->∀g o,g<W.heap.size->(∀j,j<k->W.cell? ⟨g,o+j,none⟩=iK[j]?)->∃q,Q g o q):
  ∃ad n cap qs,cs=[.slice ad n cap]/\n=qs.length/\Pd k Q (.slice ad n cap) qs/\qs.length<140737488355328/\(ad=none->qs=[]/\cap=0):=by
 rcases DataW.trod_slice ht h with ⟨aT,_⟩ | ⟨a,len,cap,jw,rest,n,hn,aT,hy2,_,wu,aX,uz,hx,_,_⟩
 ·exact ⟨none,0,0,[],aT,rfl,.inl ⟨rfl,none,0,rfl⟩,by simp,λ_=>⟨rfl,rfl⟩⟩
 by_cases h0:len=0
 ·subst h0;exact ⟨some a,0,cap,[],aT,rfl,.inl ⟨rfl,_,_,rfl⟩,by simp,λe=>by cases e⟩
 rw [hk] at hx;have hd:x.1= .slice (jw.map (·.1)) (rest.map (·.1)):=congrArg Prod.fst hy2;have bq6:len*bytes<=reachBytes:=by
  have h1:=hz ((jw.map (·.1)).length+(rest.map (·.1)).length |>(· *Tryz.prog.bytesOf e)) (by
   rw [hd];unfold DataW.weights;rw [ht];exact Op)
  rw [hb] at h1;simp only [Qb,uz] at h1;refine PZ (ZE _ ?_) h1;omega
 have ch4:len<140737488355328:=by
  have:len*1<=len*bytes:=Nat.mul_le_mul_left _ cu;unfold reachBytes at bq6;omega
 have cells:∀i,i<len->∃(iK:List Value) (x':DataW H×List MemPlace),DataW.trod enc Tryz.prog W 0 (λ_=>true) true n e iK=some x'/\(∀y∈x'.1.weights Tryz.prog e,y<=reachBytes)/\iK.length=k/\∀j,j<k->W.cell? (a.add (i*k+j))=iK[j]? :=by
  intro i hi;have aB:i<jw.length:=by omega
  have IU:=hx i hi;rw [PR aB] at IU;obtain ⟨iK,qo,BE⟩:=NP.1 IU;obtain ⟨_,yE,bn⟩:=World.cells?_some qo;refine ⟨iK,_,BE,λy hy=>hz y ?_,yE,λj hj=> ?_⟩
  ·rw [hd];unfold DataW.weights;rw [ht];exact RI _ (Fm _ (Jv (d:=jw[i].1) (PI.2 ⟨jw[i],Px aB,rfl⟩) _ hy))
  have:=bn j hj;rw [Deep.add_add] at this;exact this
 obtain ⟨ap5,x0,_,_,EA,hc0⟩:=cells 0 (by omega);have oX:=hc0 0 ud;rw [PR (by omega)] at oX;rw [Uk] at oX;have ha:a=⟨a.block,a.off,none⟩:=Xm (by exact oX:W.cell? (a.add 0)=some _);generalize a.block=g at ha;generalize a.off=o at ha;subst ha;have dh:g<W.heap.size:=by
  rw [VA] at oX;exact World.block_lt_of_cell? W _ oX
 have all:∀i,i<len->∃q,Q g (o+i*k) q:=λi hi=>by
  obtain ⟨iK,x',h1,h2,h3,h4⟩:=cells i hi;refine bi5 n iK x' hn h1 h2 h3 g (o+i*k) dh λj hj=> ?_;have:=h4 j hj;rw [VA,<-YQ] at this;exact this
 obtain ⟨q0,_⟩:=all 0 (by omega);have af2:Inhabited α:=⟨q0⟩;obtain ⟨q,hq⟩:=Deep.choose_lt all;refine ⟨some ⟨g,o,none⟩,len,cap,(List.range len).map q,aT,by simp,.inr ⟨g,o,cap,by simp,by simp [h0],by simpa using wu,λj hj=> ?_⟩,by simpa using ch4,λe=>by cases e⟩;have aJ:j<len:=by simpa using hj
 simpa using hq j aJ
theorem Na {H:Type}{enc:TypeId×Value->H}{fuel:Nat}{c:Value}{x:DataW H×List MemPlace}(h:DataW.trod enc Tryz.prog W 0 (λ_=>true) true fuel 9 [c]=some x)(hz:∀y∈x.1.weights Tryz.prog 9,y<=reachBytes):∃s:Qg,c= .string ⟨s.toArray⟩/\s.length<140737488355328:=by
 obtain ⟨s,e1,hy1,_⟩:=DataW.trod_string Tryz.underlying9 h;have e1:c= .string s:=by simpa using e1
 have hd:x.1= .lit (.string s.data.toList):=congrArg Prod.fst hy1;have:=hz s.data.toList.length (by rw [hd];simp [DataW.weights]);unfold reachBytes at this;exact ⟨s.data.toList,by rw [e1],by omega⟩
def JN:(d:Nat)->Pn d->Pn (d+1)
 | 0,t=>t.elim
 | d+1,t=>(t.1,t.2.map (JN d))
theorem Td.up1 {w:World}{S:Nat->Prop}:∀(d g o:Nat) (t:Pn d),Td w S d g o t->Td w S (d+1) g o (JN d t)
 | 0,_,_,_,h=>h.elim
 | d+1,_,_,_,⟨h0,h1,h2,h3,h4,h5,v,h6,h7⟩=>⟨h0,h1,h2,h3,h4,by show (List.map _ _).length<_;rw [Qb];exact h5,v,h6,Pd.map (JN d) (λg o p h=>Td.up1 d g o p h) h7⟩
theorem LR {H:Type}{enc:TypeId×Value->H}:∀(fuel:Nat) (cs:List Value) (x:DataW H×List MemPlace),DataW.trod enc Tryz.prog W 0 (λ_=>true) true fuel 50 cs=some x->(∀y∈x.1.weights Tryz.prog 50,y<=reachBytes)->∀g o,g<W.heap.size->(∀j,j<4->W.cell? ⟨g,o+j,none⟩=cs[j]?)->
  ∃t:Pn fuel,Td W (λy=>y<W.heap.size) fuel g o t
 | 0,_,_,h,_=>by simp [DataW.trod] at h
 | fuel+1,cs,x,h,hz=>λg o hg hc=>by
  obtain ⟨xs,m,hm,hx,aA,Ak,hf⟩:=DataW.trod_struct Tryz.underlying50 h;obtain rfl:fuel=m:=by omega
  rw [Tryz.cells50] at aA;obtain ⟨c0,c1,c2,c3,rfl⟩:=ZR aA;obtain ⟨y0,y1,y2,y3,rfl⟩:=ZR (show xs.length=4 from Ak);have g0:DataW.trod enc Tryz.prog W 0 (λ_=>true) true fuel 3 (([c0,c1,c2,c3].drop 0).take (Tryz.prog.cellsOf 3))=some y0:=hf 0 _ rfl;have g1:DataW.trod enc Tryz.prog W 0 (λ_=>true) true fuel 9 (([c0,c1,c2,c3].drop 1).take (Tryz.prog.cellsOf 9))=some y1:=hf 1 _ rfl;have g2:DataW.trod enc Tryz.prog W 0 (λ_=>true) true fuel 3 (([c0,c1,c2,c3].drop 2).take (Tryz.prog.cellsOf 3))=some y2:=hf 2 _ rfl;have g3:DataW.trod enc Tryz.prog W 0 (λ_=>true) true fuel 31 (([c0,c1,c2,c3].drop 3).take (Tryz.prog.cellsOf 31))=some y3:=hf 3 _ rfl;rw [Tryz.cells3] at g0 g2;rw [Tryz.cells9] at g1;rw [Tryz.cells31] at g3;have hw:∀(j:Nat) (t':TypeId) (d:DataW H),[3,9,3,31][j]? =some t'->[y0.1,y1.1,y2.1,y3.1][j]? =some d->∀y∈d.weights Tryz.prog t',y<=reachBytes:=by
   intro j t' d h1 h2 y hy;refine hz _ ?_;subst hx;show y∈DataW.weights Tryz.prog 50 (.agg [y0.1,y1.1,y2.1,y3.1]);unfold DataW.weights;rw [Tryz.underlying50];exact DataW.weights_mem_each (j:=j) (t:=t') h1 h2 _ hy
  obtain ⟨k,e0,_,_⟩:=JE Tryz.underlying3 g0;obtain ⟨s,e1,lg⟩:=Na g1 (hw 1 9 y1.1 rfl rfl);obtain ⟨k2,e2,_,_⟩:=JE Tryz.underlying3 g2;have e0:c0= .int .i64 k:=by simpa using e0
  have e2:c2= .int .i64 k2:=by simpa using e2
  obtain ⟨ad,n,cap,qs,e3,hn,hr,hl,_⟩:=ZF (α:=Pn fuel) 4 56 (Td W (λy=>y<W.heap.size) fuel) Tryz.underlying31 Tryz.cells50 (by decide) Tryz.bytes50 (by decide) g3 (hw 3 31 y3.1 rfl rfl) (λn iK x' hn h1 h2 h3 g' o' kq di=>by
   subst hn;obtain ⟨t,ht⟩:=LR n iK x' h1 h2 g' o' kq di;exact ⟨JN n t,Td.up1 n g' o' t ht⟩)
  have e3:c3= .slice ad n cap:=by simpa using e3
  subst hn;refine ⟨((k,s,k2),qs),hg,?_,?_,?_,lg,hl,.slice ad qs.length cap,?_,hr⟩
  ·have:=hc 0 (by decide);rw [e0] at this;exact this
  ·have:=hc 1 (by decide);rw [e1] at this;exact this
  ·have:=hc 2 (by decide);rw [e2] at this;exact this
  have:=hc 3 (by decide);rw [e3] at this;exact this
end
section
variable {W:World}{fuel:Nat}{cs:List Value}
theorem JM {α:Type}{k:Nat}{Q:Nat->Nat->α->Prop}{p:α->Prop}{v:Value}{l:List α}(h:Pd k (λg o x=>Q g o x/\p x) v l):Pd k Q v l/\∀x∈l,p x:=by
 refine ⟨h.mono λ_ _ _ _ h=>h.1,λx hx=> ?_⟩;rcases h with ⟨e,_⟩ | ⟨g,o,cap,_,_,_,hr⟩
 ·rw [e] at hx;simp at hx
 obtain ⟨j,hj,rfl⟩:=RO hx;exact (hr j hj).2
theorem be1 {H:Type}{enc:TypeId×Value->H}{x:DataW H×List MemPlace}(h:DataW.trod enc Tryz.prog W 0 (λ_=>true) true fuel 31 cs=some x)(hz:∀y∈x.1.weights Tryz.prog 31,y<=reachBytes):
  ∃ad n cap ps,cs=[.slice ad n cap]/\n=ps.length/\Pl W (λy=>y<W.heap.size) (.slice ad n cap) ps/\ps.length<140737488355328:=by
 obtain ⟨ad,n,cap,qs,h1,h2,h3,h4,_⟩:=ZF (α:=Pt) 4 56 (RN W (λy=>y<W.heap.size)) Tryz.underlying31 Tryz.cells50 (by decide) Tryz.bytes50 (by decide) h hz (λn iK x' _ h1 h2 h3 g' o' kq di=>by
  obtain ⟨t,ht⟩:=LR n iK x' h1 h2 g' o' kq di;exact ⟨⟨n,t⟩,ht⟩)
 exact ⟨ad,n,cap,qs,h1,h2,h3,h4⟩
theorem bf1 {H:Type}{enc:TypeId×Value->H}{x:DataW H×List MemPlace}(h:DataW.trod enc Tryz.prog W 0 (λ_=>true) true fuel 23 cs=some x)(hz:∀y∈x.1.weights Tryz.prog 23,y<=reachBytes):
  ∃ad n cap rows,cs=[.slice ad n cap]/\n=rows.length/\RH W (λy=>y<W.heap.size) (.slice ad n cap) rows/\rows.length<140737488355328/\∀r∈rows,r.length<140737488355328:=by
 obtain ⟨ad,n,cap,qs,h1,h2,h3,h4,_⟩:=ZF (α:=List Pt) 1 24 (λg o r=>(g<W.heap.size/\∃ad cap,W.cell? ⟨g,o,none⟩=some (.slice ad r.length cap)/\Pl W (λy=>y<W.heap.size) (.slice ad r.length cap) r)/\r.length<140737488355328) Tryz.underlying23 Tryz.cells31 (by decide) Tryz.bytes31 (by decide) h hz (λn iK x' _ h1 h2 h3 g' o' kq di=>by
  obtain ⟨ad,n,cap,ps,rfl,rfl,hp,hl⟩:=be1 h1 h2;exact ⟨ps,⟨kq,ad,cap,di 0 (by decide),hp⟩,hl⟩)
 obtain ⟨h5,h6⟩:=JM h3;exact ⟨ad,n,cap,qs,h1,h2,h5,h4,h6⟩
theorem bg1 {H:Type}{enc:TypeId×Value->H}{x:DataW H×List MemPlace}(h:DataW.trod enc Tryz.prog W 0 (λ_=>true) true fuel 22 cs=some x)(hz:∀y∈x.1.weights Tryz.prog 22,y<=reachBytes):
  ∃ad n cap fs,cs=[.slice ad n cap]/\n=fs.length/\PH W (λy=>y<W.heap.size) (.slice ad n cap) fs/\fs.length<140737488355328/\(∀f∈fs,f.1.length<140737488355328/\f.2.length<140737488355328)/\(ad=none->fs=[]/\cap=0):=by
 obtain ⟨ad,n,cap,qs,h1,h2,h3,h4,h0⟩:=ZF (α:=Pu) 2 48 (λg o f=>(g<W.heap.size/\(∃ad cap,W.cell? ⟨g,o,none⟩=some (.slice ad f.1.length cap)/\RE W (λy=>y<W.heap.size) (.slice ad f.1.length cap) f.1)/\∃ad cap,W.cell? ⟨g,o+1,none⟩=some (.slice ad f.2.length cap)/\Rl W (λy=>y<W.heap.size) (.slice ad f.2.length cap) f.2)/\f.1.length<140737488355328/\f.2.length<140737488355328) Tryz.underlying22 Tryz.cells48 (by decide) Tryz.bytes48 (by decide) h hz (λn iK x' _ h1 h2 h3 g' o' kq di=>by
  obtain ⟨xs,m,hm,hx,aA,Ak,hf⟩:=DataW.trod_struct Tryz.underlying48 h1;obtain ⟨c0,c1,rfl⟩:=ZU h3;obtain ⟨y0,y1,rfl⟩:=ZU (show xs.length=2 from Ak);have g0:DataW.trod enc Tryz.prog W 0 (λ_=>true) true m 46 (([c0,c1].drop 0).take (Tryz.prog.cellsOf 46))=some y0:=hf 0 _ rfl;have g1:DataW.trod enc Tryz.prog W 0 (λ_=>true) true m 26 (([c0,c1].drop 1).take (Tryz.prog.cellsOf 26))=some y1:=hf 1 _ rfl;rw [Tryz.cells46] at g0;rw [Tryz.cells26] at g1;have hw:∀(j:Nat) (t':TypeId) (d:DataW H),[46,26][j]? =some t'->[y0.1,y1.1][j]? =some d->∀y∈d.weights Tryz.prog t',y<=reachBytes:=by
   intro j t' d h4 h5 y hy;refine h2 _ ?_;subst hx;show y∈DataW.weights Tryz.prog 48 (.agg [y0.1,y1.1]);unfold DataW.weights;rw [Tryz.underlying48];exact DataW.weights_mem_each (j:=j) (t:=t') h4 h5 _ hy
  obtain ⟨a0,n0,k0,ns,e0,gy,dP,EA,_⟩:=ZF (α:=Qg) 1 16 (λg o x=>g<W.heap.size/\W.cell? ⟨g,o,none⟩=some (.string ⟨x.toArray⟩)/\x.length<140737488355328) Tryz.underlying46 Tryz.cells9 (by decide) Tryz.bytes9 (by decide) g0 (hw 0 46 y0.1 rfl rfl) (λn iK x' _ h1 h2 h3 g' o' kq di=>by
   obtain ⟨c,rfl⟩:=NZ h3;obtain ⟨s,rfl,hs⟩:=Na h1 h2;exact ⟨s,kq,di 0 (by decide),hs⟩)
  obtain ⟨a1,n1,k1,xs,e1,cR,t6,eD,_⟩:=ZF (α:=Int) 1 8 (λg o x=>g<W.heap.size/\W.cell? ⟨g,o,none⟩=some (.int .i64 x)) Tryz.underlying26 Tryz.cells3 (by decide) Tryz.bytes3 (by decide) g1 (hw 1 26 y1.1 rfl rfl) (λn iK x' _ h1 h2 h3 g' o' kq di=>by
   obtain ⟨c,rfl⟩:=NZ h3;obtain ⟨k,e,_,_⟩:=JE Tryz.underlying3 h1;have e:c= .int .i64 k:=by simpa using e
   exact ⟨k,kq,by rw [<-e];exact di 0 (by decide)⟩)
  have qt:c0= .slice a0 n0 k0:=by simpa using e0
  have Dh:c1= .slice a1 n1 k1:=by simpa using e1
  clear e0 e1;subst qt Dh gy cR;exact ⟨(ns,xs),⟨kq,⟨a0,k0,di 0 (by decide),dP⟩,a1,k1,di 1 (by decide),t6⟩,EA,eD⟩)
 obtain ⟨h5,h6⟩:=JM h3;exact ⟨ad,n,cap,qs,h1,h2,h5,h4,h6,h0⟩
end
