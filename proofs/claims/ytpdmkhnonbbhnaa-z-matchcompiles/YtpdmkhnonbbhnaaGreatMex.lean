import Derived.Test.YtpdmkhnonbbhnaaGreatRb
import Derived.Test.YtpdmkhnonbbhnaaGreatMax
import Derived.Test.YtpdmkhnonbbhnaaGreatMdx
namespace Go.Proofs.YtpdmkhnonbbhnaaGreat
open Go.RowKit Go.Maps
set_option maxHeartbeats 8000000
set_option maxRecDepth 10000
section
variable {S Z:Nat->Prop}{w w1 w2:World}{B e t b:Nat}{v:Value}{al:Array Oper}{rest:List Oper}{o:Oper}{a:Act}{Q:Exit->Act->World->Prop}{l:List Nat}
def RL (S:Nat->Prop)(B:Nat)(w:World)(v:Value)(y:Nat):Prop:=S y\/(B<=y/\y<w.heap.size/\v.ownBlock≠some y)
def Pi {α:Type}(E:Elt α)(e B:Nat)(S:Nat->Prop)(w:World)(v:Value)(l:List α):Prop:=Own E e B w (RL S B w v) v l
theorem Pi.nil {α:Type}(E:Elt α)(e B:Nat)(S:Nat->Prop)(w:World):Pi E e B S w (.slice none 0 0) ([]:List α):=Own.nil _ _ _ _ _
theorem RL.lt (hS:∀y,S y->y<B)(hB:B<=w.heap.size):∀y,RL S B w v y->y<w.heap.size:=λy h=>by
 rcases h with h | h
 ·have:=hS y h;omega
 exact h.2.1
theorem Pi.on {α:Type}{E:Elt α}{w':World}{l:List α}(h:Pi E e B S w v l)(hS:∀y,S y->y<B)(hB:B<=w.heap.size)(hb:Below w.heap.size w w'):Pi E e B S w' v l:=by
 have h1:Own E e B w' (RL S B w v) v l:=Own.on h (OZ.of hb (RL.lt hS hB)) λg e=>hb.block g (h.lt g e).2;refine h1.up (λy hy=>hy.imp id λh=>⟨h.1,PQ h.2.1 hb.size,h.2.2⟩) λy hy e=> ?_;rcases hy with hy | hy
 ·have:=(h.lt y e).1;have:=hS y hy;omega
 exact hy.2.2 e
theorem Pi.rowE {α:Type}{E:Elt α}{l:List α}(h:Pi E e B S w v l):PC E w (λy=>B<=y/\y<w.heap.size) (λy=>S y\/(B<=y/\y<w.heap.size)) v l:=
 (Own.rowE h).on (OZ.refl _ _) (OZ.refl _ _) (λy e=>h.lt y e) λ_ hy=>hy.imp id λh=>⟨h.1,h.2.1⟩
theorem Yg {α:Type}{E:Elt α}(T:Ty t e E.k b)(ez:o.guard=none)(s x:Operand)
  (ho:o.op= .call {callee:= .builtin .append,args:= #[s,x],argTypes:= #[t,t]}) {v u:Value}{l m:List α}(hs:a.eval s=v) (hown:Pi E e B S w1 v l) (hS:∀y,S y->y<B) (hB:B<=w1.heap.size) (hb:Below w1.heap.size w1 w2) (hx:a.eval x=u) (hm:PC E w2 Z (RL S B w2 v) u m) (hl:l.length+m.length<=10000000)
  (h:∀v' w',Pi E e B S w' v' (l++m)->Below B w1 w'->w2.heap.size<=w'.heap.size->wpList Tryz.prog al Q rest (a.put o.dst v') w'):wpList Tryz.prog al Q (o::rest) a w2:=by
 have h2:=hown.on hS hB hb;have iZ:B<=w2.heap.size:=PZ hB hb.size;refine NT T ez s x ho hs h2 hx hm hl iZ (RL.lt hS iZ) ?_;intro v' w' O K1 _ G;refine h v' w' ?_ ((hb.mono hB).trans K1) K1.size;refine O.up (λy hy=>hy.imp id λh=>⟨h.1,PQ h.2.1 K1.size,?_⟩) λy hy e=> ?_
 ·rcases G with G | ⟨g,G,hg⟩
  ·rw [G];exact h.2.2
  rw [G];intro e;injection e with e;have:=h.2.1;omega
 rcases hy with hy | hy
 ·have:=(O.lt y e).1;have:=hS y hy;omega
 exact hy.2.2 e
theorem Ue {α:Type}{E:Elt α}(T:Ty t e E.k b)(ez:o.guard=none)(s x:Operand)
  (ho:o.op= .call {callee:= .builtin .append,args:= #[s,x],argTypes:= #[t,t]}) {v:Value}{l:List α}{cs:List Value}{p:α}{cap:Nat}(hs:a.eval s=v) (hown:Pi E e B S w1 v l) (hS:∀y,S y->y<B) (hB:B<=w1.heap.size) (hb:Below w1.heap.size w1 w2) (hx:a.eval x= .slice (some ⟨w2.heap.size,0,none⟩) 1 cap) (hC:E.C w2 (RL S B w2 v) cs p) (aM:1<=cap) (hl:l.length+1<=10000000)
  (h:∀v' w',Pi E e B S w' v' (l++[p])->Below B w1 w'->w2.heap.size<=w'.heap.size->wpList Tryz.prog al Q rest (a.put o.dst v') w'):wpList Tryz.prog al Q (o::rest) a (w2.alloc (.cells cs.toArray e)):=by
 have hb2:Below w2.heap.size w2 (w2.alloc (.cells cs.toArray e)):=(Pb _ _).alloc (P6 _) _;have iZ:B<=w2.heap.size:=PZ hB hb.size;refine Yg (Z:=λy=>y=w2.heap.size) T ez s x ho hs hown hS hB (hb.trans (hb2.mono hb.size)) hx (PC.new (E.on (OZ.of hb2 (RL.lt hS iZ)) (λy hy=>hy.imp id λh=>⟨h.1,PQ h.2.1 hb2.size,h.2.2⟩) hC) (PF _ _) aM) hl ?_;intro v' w' O K1 K2;exact h v' w' O K1 (PZ hb2.size K2)
def S9:Elt Nat where
 k:=1
 C _ _ cs x:=cs=[.int .i64 x]
 len:=by rintro _ _ _ _ rfl;rfl
 one:=by rintro _ _ _ _ rfl u hu;rw [Ra.1 hu];rfl
 on:=λ_ _ h=>h
def Qp:Elt (List Nat) where
 k:=1
 C w S cs l:=∃ad cap,cs=[.slice ad l.length cap]/\Pv w S (.slice ad l.length cap) l
 len:=by rintro _ _ _ _ ⟨_,_,rfl,_⟩;rfl
 one:=by rintro _ _ _ _ ⟨_,_,rfl,_⟩ u hu;rw [Ra.1 hu];rfl
 on:=by rintro _ _ _ _ _ _ hk hS ⟨ad,cap,h1,h2⟩;exact ⟨ad,cap,h1,(h2.on hk).up hS⟩
def Qc:Elt Rw where
 k:=2
 C w S cs r:=∃ad cap,cs=[.int .i64 r.1,.slice ad r.2.length cap]/\Pl w S (.slice ad r.2.length cap) r.2
 len:=by rintro _ _ _ _ ⟨_,_,rfl,_⟩;rfl
 one:=by
  rintro _ _ _ _ ⟨_,_,rfl,_⟩ u hu;simp only [Qa,Sf,Si] at hu;rcases hu with rfl | rfl<;>rfl
 on:=by rintro _ _ _ _ _ _ hk hS ⟨ad,cap,h1,h2⟩;exact ⟨ad,cap,h1,(h2.on hk).up hS⟩
theorem Tryz.ty26:Ty 26 3 S9.k 8:=by
 obtain ⟨i,hi,h0,h1,h2⟩:=info_parts (show (Tryz.prog.info? 3).map (λi=>(i.zero,i.size,i.bytes))=some (some (.int .i64 0),1,8) by kernel_rfl);exact ⟨Tryz.underlying26,⟨i,_,hi,h0,h1,h2,rfl⟩,by decide,by decide⟩
theorem Tryz.ty58:Ty 58 26 Qp.k 24:=by
 obtain ⟨i,hi,h0,h1,h2⟩:=info_parts (show (Tryz.prog.info? 26).map (λi=>(i.zero,i.size,i.bytes))=some (some (.slice none 0 0),1,24) by kernel_rfl);exact ⟨Tryz.underlying58,⟨i,_,hi,h0,h1,h2,rfl⟩,by decide,by decide⟩
theorem Tryz.ty57:Ty 57 60 Qc.k 32:=by
 obtain ⟨i,hi,h0,h1,h2⟩:=info_parts (show (Tryz.prog.info? 60).map (λi=>(i.zero,i.size,i.bytes))=some (some (.agg #[.int .i64 0,.slice none 0 0]),2,32) by kernel_rfl);exact ⟨Tryz.underlying57,⟨i,_,hi,h0,h1,h2,rfl⟩,by decide,by decide⟩
theorem Pv.toE {S':Nat->Prop}(h:Pv w S v l):PC S9 w S S' v l:=Pd.mono (λg o x _ ⟨h0,h1⟩=>⟨h0,[.int .i64 x],rfl,λj hj=>by
 obtain rfl:j=0:=by have:j<1:=hj;omega
 exact h1⟩) h
theorem PC.toNats (h:PC S9 w Z S v l):Pv w Z v l:=Pd.mono (λg o x _ ⟨h0,cs,h1,h2⟩=>⟨h0,by
 have:=h2 0 (by decide);rw [show cs=[Value.int .i64 x] from h1] at this;exact this⟩) h
theorem NW (S:Nat->Prop)(n:Nat)(hS:∀y,S y->y<w.heap.size)(hn:n<=1000000):
  Calls Tryz.prog 47 #[.int .i64 n] w λr w'=>∃v,r= .returned v/\Below w.heap.size w w'/\Pi R9 50 w.heap.size S w' v (List.replicate n Ta):=by
 have HS:=P4 hS;clear hS;go_enter Tryz.func47,Tryz.ntmps47;go_wp2
 go_loopw [3,4] (λv iv wr=>∃i:Nat,i<=n/\iv= .int .i64 i/\Hid (Below w.heap.size w wr)/\Hid (Pi R9 50 w.heap.size S wr v (List.replicate i Ta))) (λ_ iv _=>n-(intOf iv).toNat)
 case atStart=>exact ⟨0,by omega,by go_num,Pb _ _,Pi.nil _ _ _ _ _⟩
 obtain ⟨i,hi,rfl,HB,HO⟩:=hrel;by_cases ag:i<n
 ·have i1:(0:Int)<=(i:Int):=by omega
  have i2:(i:Int)<(n:Int):=by omega
  go_wp2_with (at_builtin;refine Ue (E:=R9) (cs:=Ru Ta none 0) Tryz.ty31 rfl _ _ rfl rfl HO.out HS.out HB.size (Pb _ _) rfl ⟨none,0,rfl,by decide,by decide,.inl ⟨rfl,none,0,rfl⟩⟩ (P6 _) (by simp;omega) ?_;intro v1 w1 O1 B1 _)
  have ng:Hid (Pi R9 50 w.heap.size S w1 v1 (List.replicate (i+1) Ta)):=by
   show Pi _ _ _ _ _ _ _;rw [List.replicate_succ'];exact O1
  have bI:=P4 (HB.trans B1);clear O1 B1 HO HB
  go_roundw
  case rel=>exact ⟨i+1,ag,by go_num,bI.out,ng.out⟩
  case measure=>simp [intOf];omega
 obtain rfl:i=n:=by omega
 go_wp2;go_ret;exact ⟨_,rfl,HB.out,HO.out⟩
end
def KO (fs:List Pu)(n:Qg)(w:World)(r:Ending)(w':World):Prop:=w'=w/\((∃(i j:Nat) (f:Pu),fs[i]? =some f/\f.1[j]? =some n/\r= .returned (.tuple #[.int .i64 i,.int .i64 j]))\/((∀f∈fs,n∉f.1)/\r= .returned (.tuple #[.int .i64 (-1),.int .i64 (-1)])))
theorem Kq {w:World}{S:Nat->Prop}(fs:List Pu)(n:Qg)(fa:Option Addr)(fc:Nat)(ee:PH w S (.slice fa fs.length fc) fs)(aY:fs.length<=10000)(pA:∀f∈fs,f.1.length<140737488355328):
  Calls Tryz.prog 42 #[.slice fa fs.length fc,.string ⟨n.toArray⟩] w (KO fs n w):=by
 obtain ⟨_,_,cJ,ay⟩:=Pd.open ee;injection cJ with cJ iU d9;subst cJ d9;clear iU ee;have ei:=P4 ay;have zy:=P4 pA;clear ay pA;go_enter Tryz.func42,Tryz.ntmps42;go_wp2
 go_loopw [6,7] (λiv _ wr=>∃(i:Nat),i<=fs.length/\iv= .int .i64 i/\wr=w/\Hid (∀f∈fs.take i,n∉f.1)) (λiv _ _=>fs.length-(intOf iv).toNat)
 case atStart=>exact ⟨0,by omega,by go_num,rfl,λf hf=>by simp at hf⟩
 obtain ⟨i,hi,rfl,hw,HM⟩:=hrel;obtain rfl:=hw.symm;by_cases wM:i<fs.length
 ·obtain ⟨gf,of,rfl,GS,hr⟩:=ei.out (λe=>by rw [e] at wM;simp at wM);obtain ⟨s0,⟨ad,cap,q,eY⟩,_⟩:=hr i wM;have fL:fs[i].1.length<140737488355328:=zy.out _ (Px wM);have bS:fs[i]? =some fs[i]:=PR wM;clear hr s0;generalize fs[i]=fi at q eY fL bS;have k8:Hid (n∉fi.1->∀f∈fs.take (i+1),n∉f.1):=λhn f hf=>by
   rw [S1,bS] at hf;rcases PE.1 hf with hf | hf
   ·exact HM.out f hf
   obtain rfl:f=fi:=by simpa using hf
   exact hn
  have bt7:=P4 bS;have IW:=P4 wM;have i1:(0:Int)<=(i:Int):=by omega
  have i2:(i:Int)<(fs.length:Int):=by omega
  clear bS;obtain ⟨ns,pQ⟩:∃ns,ns=fi.1:=⟨_,rfl⟩;have mM:=P4 pQ;rw [<-pQ] at q eY fL;clear pQ;obtain ⟨_,_,lT,bW⟩:=Pd.open eY;injection lT with lT hx3 uZ;subst lT uZ;clear hx3 eY;have pZ:=P4 bW;clear bW;go_wp2
  go_loopw [7] (λkv wr=>∃(k:Nat),k<=ns.length/\kv= .int .i64 k/\wr=w/\Hid (n∉ns.take k)) (λkv _=>ns.length-(intOf kv).toNat)
  case atStart=>exact ⟨0,by omega,by go_num,rfl,by show _∉_;simp⟩
  obtain ⟨k,aF,rfl,hw,dJ⟩:=hrel;obtain rfl:=hw.symm;by_cases iV:k<ns.length
  ·obtain ⟨gs,os,rfl,aT,ig⟩:=pZ.out (λe=>by rw [e] at iV;simp at iV);obtain ⟨_,y0,av4⟩:=ig k iV;rw [R4] at y0;have k1:(0:Int)<=(k:Int):=by omega
   have k2:(k:Int)<(ns.length:Int):=by omega
   have C3:ns[k]? =some ns[k]:=PR iV;clear ig;generalize ns[k]=m at y0 av4 C3;have Fn:=Qh iV C3;have cl7:Hid (n≠m->n∉ns.take (k+1)):=λam=>by
    rw [S1,C3];intro h;rcases PE.1 h with h | h
    ·exact dJ.out h
    exact am (by simpa using h)
   clear C3;cases hA:(m==n) with
   | true=>
    have pR:m=n:=Us hA;have oY:=P4 pR;clear pR;go_wp2;refine Qv (v:= .tuple #[.int .i64 i,.int .i64 k]) (by simp [results,Tryz.results42,go_sem]) rfl ?_;exact ⟨rfl,.inl ⟨i,k,fi,bt7.out,by rw [<-mM.out,Fn.out.2,oY.out],rfl⟩⟩
   | false=>
    have oY:Hid (n≠m):=λe=>by rw [e] at hA;simp at hA
    go_wp2;refine ⟨⟨k+1,Fn.1,by go_num,by trivial,cl7.out oY.out⟩,by simp [intOf];have:=Fn.1;omega⟩
  have qR:k=ns.length:=by omega
  subst qR;have k2:¬((ns.length:Nat):Int)<(ns.length:Int):=by omega
  have Fq:Hid (n∉ns):=by
   have:=dJ.out;rw [QM] at this;exact this
  clear dJ pZ;go_wp2;refine ⟨⟨i+1,IW.out,by go_num,by trivial,k8.out (by rw [<-mM.out];exact Fq.out)⟩,by simp [intOf];have:=IW.out;omega⟩
 have jH:i=fs.length:=by omega
 subst jH;have i2:¬((fs.length:Nat):Int)<(fs.length:Int):=by omega
 have Fq:Hid (∀f∈fs,n∉f.1):=by
  have:=HM.out;rw [QM] at this;exact this
 clear HM ei;go_wp2;refine Qv (v:= .tuple #[.int .i64 (-1),.int .i64 (-1)]) (by simp [results,Tryz.results42,go_sem]) rfl ?_;exact ⟨rfl,.inr ⟨Fq.out,rfl⟩⟩
