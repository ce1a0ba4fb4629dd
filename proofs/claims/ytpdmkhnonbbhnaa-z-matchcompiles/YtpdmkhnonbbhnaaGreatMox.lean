import Derived.Test.YtpdmkhnonbbhnaaGreatMmx
import Derived.Test.YtpdmkhnonbbhnaaGreatMnx
import Derived.Test.YtpdmkhnonbbhnaaGreatMex
namespace Go.Proofs.YtpdmkhnonbbhnaaGreat
open Go.RowKit Go.Maps
set_option maxHeartbeats 32000000
set_option maxRecDepth 10000
section
variable {S:Nat->Prop}{w:World}{v:Value}{e B:Nat}
def ZD (c:Cs)(v0 v1 v2 v3 v4:Value):List Value:=[.string ⟨c.1.toArray⟩,.int .i64 c.2,v0,v1,v2,v3,v4]
def RY (f:Nat):Elt (Cs×Tr f) where
 k:=7
 C w S cs c:=∃v0 v1 v2 v3 v4,cs=ZD c.1 v0 v1 v2 v3 v4/\c.1.1.length<140737488355328/\PL w S f (.agg #[v0,v1,v2,v3,v4]) c.2
 len:=by rintro _ _ _ _ ⟨_,_,_,_,_,rfl,_⟩;rfl
 one:=by
  rintro _ _ _ _ ⟨v0,v1,v2,v3,v4,rfl,_,ht⟩ u hu;obtain ⟨a,b,pa,pl,pc,ca,cl,cc,ea,el,ec,e⟩:=ht.parts;injection e with e;have e0:=congrArg (λx:Array Value=>x[0]?) e;have e1:=congrArg (λx:Array Value=>x[1]?) e;have e2:=congrArg (λx:Array Value=>x[2]?) e;have e3:=congrArg (λx:Array Value=>x[3]?) e;have e4:=congrArg (λx:Array Value=>x[4]?) e;injection e0 with e0;injection e1 with e1;injection e2 with e2;injection e3 with e3;injection e4 with e4;subst e0 e1 e2 e3 e4;simp only [ZD,Qa,Sf,Si] at hu;rcases hu with rfl | rfl | rfl | rfl | rfl | rfl | rfl<;>rfl
 on:=by
  rintro w w' S S' cs x hk hS ⟨v0,v1,v2,v3,v4,h1,h2,h3⟩;exact ⟨v0,v1,v2,v3,v4,h1,h2,PL.below hk hS f _ _ h3⟩
theorem Tryz.ty27 (f:Nat):Ty 27 53 (RY f).k 112:=by
 obtain ⟨i,hi,h0,h1,h2⟩:=info_parts Tryz.info53;exact ⟨Tryz.underlying27,⟨i,_,hi,h0,h1,h2,rfl⟩,show 0<7 by decide,by decide⟩
theorem PC.cases {f:Nat}{Z:Nat->Prop}{l:List (Cs×Tr f)}(h:PC (RY f) w Z S v l){S':Nat->Prop}(hZ:∀y,Z y->S' y)(hS:∀y,S y->S' y):
  Pd 7 (λg o (c:Cs×Tr f)=>S' g/\w.cell? ⟨g,o,none⟩=some (.string ⟨c.1.1.toArray⟩)/\w.cell? ⟨g,o+1,none⟩=some (.int .i64 c.1.2)/\c.1.1.length<140737488355328/\∃v0 v1 v2 v3 v4,w.cell? ⟨g,o+2,none⟩=some v0/\w.cell? ⟨g,o+3,none⟩=some v1/\w.cell? ⟨g,o+4,none⟩=some v2/\w.cell? ⟨g,o+5,none⟩=some v3/\w.cell? ⟨g,o+6,none⟩=some v4/\PL w S' f (.agg #[v0,v1,v2,v3,v4]) c.2) v l:=by
 refine Pd.mono (λg o c _ hp=> ?_) h;obtain ⟨h0,cs,⟨v0,v1,v2,v3,v4,rfl,h2,h3⟩,hc⟩:=hp;exact ⟨hZ _ h0,hc 0 (show 0<7 by decide),hc 1 (show 1<7 by decide),h2,v0,v1,v2,v3,v4,hc 2 (show 2<7 by decide),hc 3 (show 3<7 by decide),hc 4 (show 4<7 by decide),hc 5 (show 5<7 by decide),hc 6 (show 6<7 by decide),PL.below (OZ.refl _ _) hS f _ _ h3⟩
theorem Pi.keep {α:Type}{E:Elt α}{T:Nat}{w':World}{l:List α}(h:Pi E e B S w v l)(hT:T<B)(bg6:¬S T)(hk:Kx T w w')(hS:∀y,S y->y<B)(hB:B<=w.heap.size):Pi E e B S w' v l:=by
 have am:∀y,RL S B w v y->y≠T:=λy hy e=>by
  rcases hy with hy | hy
  ·exact bg6 (e▸hy)
  omega
 have h1:Own E e B w' (RL S B w v) v l:=Own.on h (λy hy=>hk.block y (RL.lt hS hB y hy) (am y hy)) λg eg=>hk.block g (h.lt g eg).2 (by have:=(h.lt g eg).1;omega);refine h1.up (λy hy=>hy.imp id λh=>⟨h.1,PQ h.2.1 hk.size,h.2.2⟩) λy hy e=> ?_;rcases hy with hy | hy
 ·have:=(h.lt y e).1;have:=hS y hy;omega
 exact hy.2.2 e
theorem Lo {α:Type}{E:Elt α}{al:Array Oper}{o:Oper}{a:Act}{K:Act->World->Prop}{Q:Exit->Act->World->Prop}{P:Prop}{w1 w2:World}{t b:Nat}(T:Ty t e E.k b)(ez:o.guard=none)(s x:Operand)
  (ho:o.op= .call {callee:= .builtin .append,args:= #[s,x],argTypes:= #[t,t]}) {v:Value}{l:List α}{cs:List Value}{p:α}{cap:Nat}(hs:a.eval s=v) (hown:Pi E e B S w1 v l) (hS:∀y,S y->y<B) (hB:B<=w1.heap.size) (hb:Below w1.heap.size w1 w2) (H:Nat) (hx:a.eval x= .slice (some ⟨H,0,none⟩) 1 cap) (hH:w2.heap.size=H) (hC:E.C w2 (RL S B w2 v) cs p) (hl:l.length+1<=10000000)
  (h:∀g cap' w',Pi E e B S w' (.slice (some ⟨g,0,none⟩) (l.length+1) cap') (l++[p])->Hid (Below w1.heap.size w1 w'\/∃g0,v.ownBlock=some g0/\Kx g0 w2 w')->Hid (Below B w1 w'/\∀y,y<w2.heap.size->v.ownBlock≠some y->w'.heap[y]? =w2.heap[y]?)->K (a.put o.dst (.slice (some ⟨g,0,none⟩) (l.length+1) cap')) w'):
  if Region.wanted o (yielded al a.tmps)=true then Oper.wp Tryz.prog o a (w2.alloc (.cells cs.toArray e)) K Q else P:=by
 subst hH;obtain ⟨i,z,hi,hz,hk,pw,px⟩:=T.info;have iZ:B<=w2.heap.size:=PZ hB hb.size;have hb2:Below w2.heap.size w2 (w2.alloc (.cells cs.toArray e)):=(Pb _ _).alloc (P6 _) _;have eN:Below w1.heap.size w1 (w2.alloc (.cells cs.toArray e)):=hb.trans (hb2.mono hb.size);have h2:=hown.on hS hB eN;obtain ⟨bX,aT,pO⟩:=id h2.row;have bh2:=E.on (OZ.of hb2 (RL.lt hS iZ)) (S':=RL S B (w2.alloc (.cells cs.toArray e)) v) (λy hy=>hy.imp id λh=>⟨h.1,PQ h.2.1 hb2.size,h.2.2⟩) hC;have hsm:=T.small;have aA:cs.length=1*E.k:=by rw [E.len hC,YF]
 have du:(l.length+1)*b<=140737488355328:=by
  have:=KH hl hsm;omega
 have ji:=PF w2 (.cells cs.toArray e);refine step_append_lies _ ez s x t ho B e i z E.k b T.slice hi hz hk pw px T.pos v l.length bX.flatten hs pO ⟨w2.heap.size,0,none⟩ 1 cap cs hx aA (World.news_of_block (cs:=cs.toArray) ji) (E.one hC) (by omega) (by unfold maxLen;omega) du (PZ iZ hb2.size) _ rfl ?_;intro g' cap' w' h1 h3 h4 h5;have yQ:=RL.lt (v:=v) hS (PZ iZ hb2.size);have bU:OZ (RL S B (w2.alloc (.cells cs.toArray e)) v) (w2.alloc (.cells cs.toArray e)) w':=λy hy=>h3.block y (yQ y hy) λe=>h2.out y hy e.symm;have bj7:B<=g':=(h1.lt g' rfl).1;have az:Below B w1 w':=((hb.mono hB).trans (hb2.mono iZ)).grown h3 (PZ iZ hb2.size) λk hk=>(h2.lt k hk).1;refine h g' cap' w' ?_ ?_ ⟨az,λy hy am=>(h3.block y (PQ hy hb2.size) λe=>am e.symm).trans (hb2.block y hy)⟩
 ·refine ⟨⟨bX++[cs],?_,?_⟩,λy hy e=> ?_⟩
  ·have fE:∀y,RL S B (w2.alloc (.cells cs.toArray e)) v y->RL S B w' (.slice (some ⟨g',0,none⟩) (l.length+1) cap') y:=λy hy=>hy.imp id λh=>⟨h.1,PQ h.2.1 h3.size,λe=>by
    injection e with e;have e:g'=y:=e;rcases h4 with h4 | h4
    ·exact h.2.2 (by rw [h4,e])
    have:=h.2.1;omega⟩
   exact (aT.on bU fE).append (Sy.one (E.on bU fE bh2))
  ·rw [Tu,QP];simpa using h1
  rcases hy with hy | hy
  ·injection e with e;have e:g'=y:=e;have:=hS y hy;omega
  exact hy.2.2 e
 cases hv:v.ownBlock with
 | none=>exact .inl (eN.trans ⟨h3.os,h3.tape,h3.output,h3.size,λk hk=>h3.block k (by have:=eN.size;omega) (by rw [hv];simp)⟩)
 | some g0=>exact .inr ⟨g0,rfl,⟨h3.os,h3.tape,h3.output,PZ hb2.size h3.size,λk hk am=>(h3.block k (PQ hk hb2.size) (by rw [hv];intro e;injection e with e;exact am e)).trans (hb2.block k hk)⟩⟩
end
section
variable {w:World}{k:Kn}{fs:List Pu}{fa:Option Addr}{fc f n:Nat}{ak:List (List Nat)}{av rv:Value}
def Uc (k:Kn)(fs:List Pu)(f n:Nat)(R:List Rw)(ak:List (List Nat))(w:World)(r:Ending)(w':World):Prop:=Below w.heap.size w w'/\
 ((Q4 k fs f n R ak=none/\∃a b pa pl pc ca cl cc ea el ec,r= .returned (.tuple #[.agg #[.int .i64 a,.int .i64 b,.slice pa pl pc,.slice ca cl cc,.slice ea el ec],.int .i64 (-1)]))\/
   ∃t m,Q4 k fs f n R ak=some (t,m)/\m<=5000/\∃a b pa pl pc ca cl cc ea el ec,r= .returned (.tuple #[.agg #[.int .i64 a,.int .i64 b,.slice pa pl pc,.slice ca cl cc,.slice ea el ec],.int .i64 (5000-(m:Int))])/\PL w' (λy=>w.heap.size<=y/\y<w'.heap.size) f (.agg #[.int .i64 a,.int .i64 b,.slice pa pl pc,.slice ca cl cc,.slice ea el ec]) t)
abbrev SM:Array Value:= #[.int .i64 0,.int .i64 0,.slice none 0 0,.slice none 0 0,.slice none 0 0]
theorem Zx {V U:World}(hb:Below (w.heap.size) w V)(hs:U.heap.size=V.heap.size)(hk:∀x,x≠w.heap.size->U.heap[x]? =V.heap[x]?)(ho:U.os=V.os/\U.tape=V.tape/\U.output=V.output):Below w.heap.size w U:=
 ⟨ho.1.trans hb.os,ho.2.1.trans hb.tape,ho.2.2.trans hb.output,by rw [hs];exact hb.size,λy hy=>(hk y (by omega)).trans (hb.block y hy)⟩
theorem KK (w:World)(a b c d e:Value):(w.alloc (.cells #[a,b,c,d,e] 30)).cell? ⟨w.heap.size,0,none⟩=some a/\(w.alloc (.cells #[a,b,c,d,e] 30)).cell? ⟨w.heap.size,1,none⟩=some b/\(w.alloc (.cells #[a,b,c,d,e] 30)).cell? ⟨w.heap.size,2,none⟩=some c/\(w.alloc (.cells #[a,b,c,d,e] 30)).cell? ⟨w.heap.size,3,none⟩=some d/\(w.alloc (.cells #[a,b,c,d,e] 30)).cell? ⟨w.heap.size,4,none⟩=some e:=
 ⟨P5 (PF _ _) rfl,P5 (PF _ _) rfl,P5 (PF _ _) rfl,P5 (PF _ _) rfl,P5 (PF _ _) rfl⟩
theorem Wv {R:List Rw}(hn:Q4 k fs f 5000 R ak=none):Calls Tryz.prog 23 #[.slice fa fs.length fc,rv,av,.int .i64 0] w (Uc k fs f 5000 R ak w):=by
 have HN:Hid (Q4 k fs f 5000 R ak=none):=hn;clear hn;go_enter Tryz.func23,Tryz.ntmps23;go_wp2;obtain ⟨u0,u1,u2,u3,u4⟩:=KK w (.int .i64 0) (.int .i64 0) (.slice none 0 0) (.slice none 0 0) (.slice none 0 0);refine Qv (v:= .tuple #[.agg #[.int .i64 0,.int .i64 0,.slice none 0 0,.slice none 0 0,.slice none 0 0],.int .i64 (-1)]) (by simp [results,Tryz.results23,go_sem,u0,u1,u2,u3,u4]) rfl ?_;exact ⟨(Pb _ _).alloc (P6 _) _,.inl ⟨HN.out,_,_,_,_,_,_,_,_,_,_,_,rfl⟩⟩
theorem VV {ra:Option Addr}{rc:Nat}(hn:n<5000):Calls Tryz.prog 23 #[.slice fa fs.length fc,.slice ra 0 rc,av,.int .i64 (5000-(n:Int))] w (Uc k fs (f+1) n [] ak w):=by
 have HR:Hid (Q4 k fs (f+1) n [] ak=some (((1,0,[]),[],[]),n+1)):=by
  show _=_;unfold Q4;rw [P7 (by omega)]
  rfl
 have x0:IntKind.i64.wrap (5000-(n:Int)-1)=5000-((n+1:Nat):Int):=by rw [RV];omega
 have x1:¬(5000-((n+1:Nat):Int))<0:=by omega
 have HN:Hid (n+1<=5000):=hn;generalize hm:n+1=m at *
 clear hm hn;go_enter Tryz.func23,Tryz.ntmps23;go_wp2;obtain ⟨u0,u1,u2,u3,u4⟩:=KK w (.int .i64 1) (.int .i64 0) (.slice none 0 0) (.slice none 0 0) (.slice none 0 0);refine Qv (v:= .tuple #[.agg #[.int .i64 1,.int .i64 0,.slice none 0 0,.slice none 0 0,.slice none 0 0],.int .i64 (5000-(m:Int))]) (by simp [results,Tryz.results23,go_sem,u0,u1,u2,u3,u4]) rfl ?_;refine ⟨(Pb _ _).alloc (P6 _) _,.inr ⟨_,_,HR.out,HN.out,_,_,_,_,_,_,_,_,_,_,_,rfl,none,0,none,0,none,0,rfl,.inl ⟨rfl,_,_,rfl⟩,.inl ⟨rfl,_,_,rfl⟩,.inl ⟨rfl,_,_,rfl⟩⟩⟩
theorem Y1 {r:Rw}{R':List Rw}{S:Nat->Prop}(hS:∀y,S y->y<w.heap.size)(hR:PC Qc w S S rv (r::R'))(hl:r.2.length<=1000000)(hn:n<5000)(hf:r.2.findIdx? (λp=> !Pm p)=none):Calls Tryz.prog 23 #[.slice fa fs.length fc,rv,av,.int .i64 (5000-(n:Int))] w (Uc k fs (f+1) n (r::R') ak w):=by
 have HR:Hid (Q4 k fs (f+1) n (r::R') ak=some (((2,r.1,[]),[],[]),n+1)):=by
  show _=_;unfold Q4;rw [P7 (by omega)];dsimp only;rw [hf]
  rfl
 have x0:IntKind.i64.wrap (5000-(n:Int)-1)=5000-((n+1:Nat):Int):=by rw [RV];omega
 have x1:¬(5000-((n+1:Nat):Int))<0:=by omega
 have HN:Hid (n+1<=5000):=hn;generalize hm:n+1=m at *
 clear hm hn;obtain ⟨ad,cap,rfl⟩:=Pd.len hR;have hb:Below w.heap.size w (w.alloc (.cells SM 30)):=(Pb _ _).alloc (P6 _) _;have hk:=OZ.of hb hS;obtain ⟨g,o,rfl,aM,sg,r0,pa,pc,r1,hp⟩:=hR.rowAt (i:=0) (by simp);rw [Uk,TO] at r0 r1;have ub:w.cell? ⟨g,o,none⟩=some (.int .i64 r.1):=r0;have wl:w.cell? ⟨g,o+1,none⟩=some (.slice pa r.2.length pc):=r1;have gN:Pl w S (.slice pa r.2.length pc) r.2:=hp;have CF:=KV (r.1:Int) _ _ (λy hy=>PQ (hS y hy) hb.size) (gN.on hk) hl;rw [hf,show Zk none= -1 from rfl] at CF;have dh:g<w.heap.size:=hS g sg;have yR:Hid ((w.alloc (.cells SM 30)).heap[w.heap.size]? =some (.cells #[.int .i64 0,.int .i64 0,.slice none 0 0,.slice none 0 0,.slice none 0 0] 30 (0,0))):=PF _ _;have HB:Hid _:=hb;have aA:(r::R').length=R'.length+1:=rfl;clear hk r0 r1 hp gN sg hf hb hR hS hl;rw [aA] at aM⊢;have hz:¬((R'.length:Int)+1)=0:=by omega
 have bJ:(0:Int)<(R'.length:Int)+1:=by omega
 have yS:(R'.length+1=0)=False:=by simp
 have kr:Hid (∀W',Below (w.alloc (.cells SM 30)).heap.size (w.alloc (.cells SM 30)) W'->W'.cell? ⟨g,o,none⟩=some (.int .i64 r.1)/\Below w.heap.size w W'/\W'.heap[w.heap.size]? =some (.cells #[.int .i64 0,.int .i64 0,.slice none 0 0,.slice none 0 0,.slice none 0 0] 30 (0,0))):=λW' aj=>by
  have hs:w.heap.size<(w.alloc (.cells SM 30)).heap.size:=PV yR.out;refine ⟨((HB.out.trans (aj.mono HB.out.size)).cell (p:=⟨g,o,none⟩) dh).trans ub,HB.out.trans (aj.mono HB.out.size),(aj.block _ hs).trans yR.out⟩
 go_enter Tryz.func23,Tryz.ntmps23
 go_wp2_with (go_at_call 38;(with_reducible refine Pe CF ?_);rintro e' w1 ⟨rfl,hb1⟩;obtain ⟨f0,az,jL⟩:=kr.out w1 hb1;have s0:=P5 jL (i:=0) rfl;have s1:=P5 jL (i:=1) rfl;have s2:=P5 jL (i:=2) rfl;have s3:=P5 jL (i:=3) rfl;have s4:=P5 jL (i:=4) rfl;have z0:=Pp (o:=0) jL;have z1:=Pp (o:=1) jL;have z2:=Pp (o:=2) jL;have z3:=Pp (o:=3) jL;have z4:=Pp (o:=4) jL)
 obtain ⟨U,hU,aG,bj,c9,aP⟩:=Ud jL (.int .i64 2) (.int .i64 r.1) (.slice none 0 0) (.slice none 0 0) (.slice none 0 0);rw [<-hU];have u0:=P5 aG (i:=0) rfl;have u1:=P5 aG (i:=1) rfl;have u2:=P5 aG (i:=2) rfl;have u3:=P5 aG (i:=3) rfl;have u4:=P5 aG (i:=4) rfl;refine Qv (v:= .tuple #[.agg #[.int .i64 2,.int .i64 r.1,.slice none 0 0,.slice none 0 0,.slice none 0 0],.int .i64 (5000-(m:Int))]) (by simp [results,Tryz.results23,go_sem,u0,u1,u2,u3,u4]) rfl ?_;exact ⟨Zx az bj c9 aP,.inr ⟨_,_,HR.out,HN.out,_,_,_,_,_,_,_,_,_,_,_,rfl,none,0,none,0,none,0,rfl,.inl ⟨rfl,_,_,rfl⟩,.inl ⟨rfl,_,_,rfl⟩,.inl ⟨rfl,_,_,rfl⟩⟩⟩
end
section
variable {k:Kn}{fs:List Pu}{c:Nat}
structure RP (k:Kn)(f:Nat)(R:List Rw)(ak:List (List Nat)):Prop where
 wid:∀r∈R,r.2.length=ak.length
 nd:(R.map (·.1)).Nodup
 num:R.length<=200
 many:ak.length<=16+8*(5001-f)
 deep:∀p∈ak,p.length<=1+(5001-f)
 right:∀j,Th k (Pq j R)
 small:∀r∈R,∀p∈r.2,p.sz<=100000
theorem Ts {α:Type}{l:List α}{xs:List α}{x:α}(h:x∈Qd l c xs):x∈l\/x∈xs:=by
 unfold Qd at h;rcases PE.1 h with h | h
 ·rcases PE.1 h with h | h
  ·exact .inl (Sa h)
  exact .inr h
 exact .inl (Sn h)
theorem Th.nil (k:Kn):Th k []:=⟨0,λ_ h=>by simp at h,rfl⟩
theorem um1 (hk:KnOk k fs){sel:Rw->Option (List Pt)}{c many:Nat}{R:List Rw}(hn:(R.map (·.1)).Nodup)(hw:∀r∈R,c<r.2.length)(hm:∀r∈R,∀ins,sel r=some ins->ins.length=many)(hr:∀j,Th k (Pq j R))(nN:∀i,i<many->Th k (Pq (c+i) (Pw sel c R))):∀j,Th k (Pq j (Pw sel c R)):=by
 intro j;rcases Sk j c with hj | hj
 ·rw [Ou (j:=j) hn λr hr ins e=>E4 _ (hw r hr) hj];exact (hr j).sub hk TW
 rcases Sk j (c+many) with eX | eX
 ·have:=nN (j-c) (by omega)
  rwa [show c+(j-c)=j by omega] at this
 obtain ⟨d,rfl⟩:∃d,j=c+many+d:=⟨j-(c+many),by omega⟩;rw [Ou (j:=c+1+d) hn λr hr ins e'=>by
  rw [<-hm r hr ins e'];exact JA _ (hw r hr) _]
 exact (hr _).sub hk TW
theorem un1 {sel:Rw->Option (List Pt)}{R:List Rw}:(Pw sel c R).length<=R.length:=XH _ _
theorem RP.sel (hk:KnOk k fs){f:Nat}{R:List Rw}{ak:List (List Nat)}(h:RP k (f+1) R ak)(hf:f+1<=5001){c:Nat}(hc:c<ak.length){sel:Rw->Option (List Pt)}{many:Nat}(h8:many<=8)(hm:∀r∈R,∀ins,sel r=some ins->ins.length=many)(hp:∀r∈R,∀ins,sel r=some ins->∀p∈ins,p.sz<=100000){new:List (List Nat)}(nM:new.length=many)(fL:∀p∈new,p.length<=1+(5001-f))(nN:∀i,i<many->Th k (Pq (c+i) (Pw sel c R))):RP k f (Pw sel c R) (Qd ak c new):=by
 have hw:∀r∈R,c<r.2.length:=λr hr=>by rw [h.wid r hr];exact hc
 have gU:∀r∈Pw sel c R,∃q∈R,∃ins,sel q=some ins/\r=(q.1,Qd q.2 c ins):=λr hr=>by
  unfold Pw at hr;obtain ⟨q,hq,e⟩:=SE.1 hr;rw [VZ] at e;obtain ⟨ins,e1,e2⟩:=e;exact ⟨q,hq,ins,e1,e2.symm⟩
 have h1:=h.many;refine ⟨λr hr=> ?_,L1 h.nd,PZ un1 h.num,?_,λp gN=> ?_,um1 hk h.nd hw hm h.right nN,λr hr p gN=> ?_⟩
 ·obtain ⟨q,hq,ins,e1,rfl⟩:=gU r hr;dsimp only;rw [Za _ (hw q hq),Za _ hc,hm q hq ins e1,h.wid q hq,nM]
 ·rw [Za _ hc,nM];omega
 ·rcases Ts gN with gN | gN
  ·have:=h.deep p gN;omega
  exact fL p gN
 obtain ⟨q,hq,ins,e1,rfl⟩:=gU r hr;rcases Ts gN with gN | gN
 ·exact h.small q hq p gN
 exact hp q hq ins e1 p gN
theorem uq1 {p q:Pt}(h:q∈p.kids)(hp:p.sz<=100000):q.sz<=100000:=by
 have:=p.sz_eq;have:=WQ h;omega
theorem VO {l:List (List Nat)}(hc:c<l.length):l.getD c []∈l:=by
 rw [UU,PR hc];exact Px hc
theorem RP.case (hk:KnOk k fs){f:Nat}{R:List Rw}{ak:List (List Nat)}(h:RP k (f+1) R ak)(hf:f+1<=5001){c:Nat}(hc:c<ak.length){x:Cs}(hx:x∈Pg k (Pq c R)):RP k f (QJ k R c x) (S2 ak c (O' k x.1).2.2):=by
 have ht:=(h.right c).together;have hw:∀r∈R,c<r.2.length:=λr hr=>by rw [h.wid r hr];exact hc
 have kY:=Ks hk ht hx;have h0:x.1=[]->(O' k x.1).2.2=0:=λe=>by rw [e,Xr hk]
 refine h.sel hk hf hc (WU hk _) (yw kY h0) (λr hr ins e p hp=> ?_) (by simp) (λp hp=> ?_) (λi hi=> ?_)
 ·unfold TU at e;cases hq:r.2[c]? with
  | none=>rw [hq] at e;cases e
  | some q=>
   rw [hq] at e;dsimp only at e;have bu5:=h.small r hr q (Tf hq);cases hwq:Pm q with
   | true=>
    rw [hwq,Pc rfl] at e;rw [<-Qs e] at hp;rw [List.eq_of_mem_replicate hp]
    decide
   | false=>
    rw [hwq,P7 (by simp)] at e;cases hi:Pk x (r.1,q) with
    | false=>rw [hi,P7 (by simp)] at e;cases e
    | true=>
     rw [hi,Pc rfl] at e;rw [<-Qs e] at hp;by_cases lF:x.1=[]
     ·rw [Pc lF] at hp;cases hp
     rw [P7 lF] at hp;exact uq1 hp bu5
 ·obtain ⟨i,_,rfl⟩:=PI.1 hp;have:=h.deep _ (VO hc);rw [QP];show (ak.getD c []).length+1<=_;omega
 rw [JW hw kY h0 hi];by_cases he:Pq i (RX ((Pq c R).filter (Pk x)))=[]
 ·rw [he];exact Th.nil k
 exact (h.right c).within hx (path:=[]) (col:=([],i,Pq i (RX ((Pq c R).filter (Pk x))))) (UH.2 ⟨i,hi,he,rfl⟩)
theorem RP.rest (hk:KnOk k fs){f:Nat}{R:List Rw}{ak:List (List Nat)}(h:RP k (f+1) R ak)(hf:f+1<=5001){c:Nat}(hc:c<ak.length):RP k f (RA R c) (S2 ak c 0):=by
 have bq:∀r∈R,∀ins,TH c r=some ins->ins=[]:=λr _ ins e=>by
  unfold TH at e;cases hq:r.2[c]? with
  | none=>rw [hq] at e;cases e
  | some q=>
   rw [hq] at e;dsimp only at e;cases hwq:Pm q with
   | true=>rw [hwq,Pc rfl] at e;exact (Qs e).symm
   | false=>rw [hwq,P7 (by simp)] at e;cases e
 exact h.sel hk hf hc (many:=0) (by omega) (λr hr ins e=>by rw [bq r hr ins e];rfl) (λr hr ins e p hp=>by rw [bq r hr ins e] at hp;cases hp) rfl (λp hp=>by simp at hp) (λi hi=>by omega)
theorem SB {n x:Int}:∀{l:List Int},x∈QI n l↔x=n\/x∈l
 | []=>by simp [QI]
 | a::l=>by
  unfold QI;by_cases h1:a<n
  ·rw [Pc h1,Qa,SB,Qa];constructor
   ·rintro (h | h | h)
    ·exact .inr (.inl h)
    ·exact .inl h
    exact .inr (.inr h)
   rintro (h | h | h)
   ·exact .inr (.inl h)
   ·exact .inl h
   exact .inr (.inr h)
  rw [P7 h1];by_cases h2:a=n
  ·rw [Pc h2,Qa,<-h2];constructor
   ·exact λh=> .inr h
   rintro (h | h)
   ·exact .inl h
   exact h
  rw [P7 h2,Qa]
theorem pk0 {n:Int}:∀{l:List Int},l.Pairwise (· < ·)->(QI n l).Pairwise (· < ·)
 | [],_=>by simp [QI]
 | a::l,h=>by
  rw [U5] at h;unfold QI;by_cases h1:a<n
  ·rw [Pc h1,U5];refine ⟨λx hx=> ?_,pk0 h.2⟩;rcases SB.1 hx with rfl | hx
   ·exact h1
   exact h.1 x hx
  rw [P7 h1];by_cases h2:a=n
  ·rw [Pc h2,U5];exact h
  rw [P7 h2,U5,U5];refine ⟨λx hx=> ?_,h⟩;rcases Qa.1 hx with rfl | hx
  ·omega
  have:=h.1 x hx;omega
theorem pm0 (c:Nat):∀(R:List Rw) (l:List Int),l.Pairwise (· < ·)->(R.foldl (Uj c) l).Pairwise (· < ·)/\∀x,x∈R.foldl (Uj c) l↔x∈l\/∃r∈R,∃p,r.2[c]? =some p/\p.kind=3/\p.num=x
 | [],l,h=>⟨h,λx=>by simp⟩
 | r::R,l,h=>by
  have hs:(Uj c l r).Pairwise (· < ·)/\∀x,x∈Uj c l r↔x∈l\/∃p,r.2[c]? =some p/\p.kind=3/\p.num=x:=by
   unfold Uj;cases hp:r.2[c]? with
   | none=>exact ⟨h,λx=>by simp⟩
   | some p=>
    dsimp only;by_cases h3:p.kind=3
    ·rw [Pc h3];refine ⟨pk0 h,λx=> ?_⟩;rw [SB];constructor
     ·rintro (rfl | hx)
      ·exact .inr ⟨p,rfl,h3,rfl⟩
      exact .inl hx
     rintro (hx | ⟨q,e,_,e2⟩)
     ·exact .inr hx
     rw [<-Qs e] at e2;exact .inl e2.symm
    rw [P7 h3];refine ⟨h,λx=>⟨.inl,?_⟩⟩;rintro (hx | ⟨q,e,e3,_⟩)
    ·exact hx
    rw [<-Qs e] at e3;exact absurd e3 h3
  obtain ⟨Bs,ih2⟩:=pm0 c R (Uj c l r) hs.1;refine ⟨Bs,λx=> ?_⟩;rw [YD,ih2,hs.2];constructor
  ·rintro ((h | ⟨p,h⟩) | ⟨q,hq,h⟩)
   ·exact .inl h
   ·exact .inr ⟨r,by simp,p,h⟩
   exact .inr ⟨q,by simp [hq],h⟩
  rintro (h | ⟨q,hq,h⟩)
  ·exact .inl (.inl h)
  rcases Qa.1 hq with rfl | hq
  ·obtain ⟨p,h⟩:=h;exact .inl (.inr ⟨p,h⟩)
  exact .inr ⟨q,hq,h⟩
theorem ur1 (hk:KnOk k fs){R:List Rw}{c:Nat}(ht:together k (Pq c R)=true){s0:Sp}(h0:s0∈Pq c R)(h3:s0.2.kind=3):Pg k (Pq c R)=(Qu c R).map λx=>(([],x):Cs):=by
 obtain ⟨f1,f2⟩:=TS k (Pq c R) (Uf hk ht);obtain ⟨g1,g2⟩:=pm0 c R [] List.Pairwise.nil;refine NM k _ _ f1 ?_ λx=> ?_
 ·rw [Yu];refine g1.imp λ{a b} dQ=> ?_;rw [UD];exact .inr ⟨rfl,dQ⟩
 rw [f2];constructor
 ·intro hx;obtain ⟨s,hs,rfl⟩:=PI.1 hx;have hk3:s.2.kind=3:=((SF ht s hs s0 h0).1).trans h3;rw [TQ] at hs;obtain ⟨r,hr,e⟩:=SE.1 hs;obtain ⟨e1,e2,e3⟩:=Uo.1 e;refine PI.2 ⟨s.2.num,(g2 _).2 (.inr ⟨r,hr,s.2,e2,hk3,rfl⟩),?_⟩;rw [PA,P7 (by omega)]
 intro hx;obtain ⟨n,hn,rfl⟩:=PI.1 hx;rcases (g2 n).1 hn with h | ⟨r,hr,p,e1,e2,e3⟩
 ·simp at h
 have hw:Pm p=false:=by
  unfold Pm;rw [e2]
  decide
 refine List.mem_map.2 ⟨(r.1,p),?_,by rw [PA,if_neg (by dsimp only;omega),e3]⟩;rw [TQ];exact SE.2 ⟨r,hr,Uo.2 ⟨rfl,e1,hw⟩⟩
theorem pn0 (hk:KnOk k fs)(c:Nat)(n:Int)(R:List Rw):QJ k R c ([],n)=Pw (TJ c n) c R:=by
 unfold QJ Pw;refine Vb λr _=> ?_
 congr 1
 unfold TU TJ;cases r.2[c]? with
 | none=>rfl
 | some p=>
  dsimp only;rw [Xr hk];cases Pm p with
  | true=>rfl
  | false=>
   show (if Pk ([],n) (r.1,p)=true then _ else _)=if (false || p.num==n)=true then _ else _
   rw [Np]
   rfl
end
section
variable {f B T:Nat}{w w11:World}
structure RefIn (k:Kn)(fs:List Pu)(fa:Option Addr)(fc f n:Nat)(R:List Rw)(ak:List (List Nat))(rv av:Value)(S:Nat->Prop)(w:World):Prop where
 fuel:5001<=n+f/\f<=5001
 cnt:n<=5000
 set:∀y,S y->y<w.heap.size
 fams:PH w S (.slice fa fs.length fc) fs
 rows:PC Qc w S S rv R
 paths:PC Qp w S S av ak
 rp:RP k f R ak
def YA (k:Kn)(fs:List Pu)(fa:Option Addr)(fc f:Nat):Prop:=∀(n:Nat) (R:List Rw) (ak:List (List Nat)) (rv av:Value) (S:Nat->Prop) (w:World),RefIn k fs fa fc f n R ak rv av S w->Calls Tryz.prog 23 #[.slice fa fs.length fc,rv,av,.int .i64 (5000-(n:Int))] w (Uc k fs f n R ak w)
theorem Uc.flat {k:Kn}{fs:List Pu}{n:Nat}{R:List Rw}{ak:List (List Nat)}{w':World}{r:Ending}(h:Uc k fs f n R ak w r w'):Below w.heap.size w w'/\∃a b pa pl pc ca cl cc ea el ec,∃lv:Int,r= .returned (.tuple #[.agg #[.int .i64 a,.int .i64 b,.slice pa pl pc,.slice ca cl cc,.slice ea el ec],.int .i64 lv])/\Hid ((lv<0->lv= -1/\Q4 k fs f n R ak=none)/\(¬lv<0->∃t m,Q4 k fs f n R ak=some (t,m)/\m<=5000/\lv=5000-(m:Int)/\PL w' (λy=>w.heap.size<=y/\y<w'.heap.size) f (.agg #[.int .i64 a,.int .i64 b,.slice pa pl pc,.slice ca cl cc,.slice ea el ec]) t)):=by
 obtain ⟨hb,⟨h1,a,b,pa,pl,pc,ca,cl,cc,ea,el,ec,rfl⟩ | ⟨t,m,h1,h2,a,b,pa,pl,pc,ca,cl,cc,ea,el,ec,rfl,h3⟩⟩:=h
 ·exact ⟨hb,a,b,pa,pl,pc,ca,cl,cc,ea,el,ec,-1,rfl,λ_=>⟨rfl,h1⟩,λh=>absurd (by omega) h⟩
 exact ⟨hb,a,b,pa,pl,pc,ca,cl,cc,ea,el,ec,_,rfl,λh=>absurd h (by omega),λ_=>⟨t,m,h1,h2,rfl,h3⟩⟩
theorem ZQ {α β:Type}{step:α->Nat->Option (β×Nat)}:∀(l:List α) (x:α) (n:Nat) (ts:List β) (m:Nat),Qk step l n=some (ts,m)->Qk step (l++[x]) n=(step x m).map λy=>(ts++[y.1],y.2)
 | [],x,n,ts,m,h=>by
  unfold Qk at h;injection h with h;injection h with h1 h2;subst h1 h2;rw [VP];unfold Qk;cases step x n with
  | none=>rfl
  | some y=>rfl
 | a::l,x,n,ts,m,h=>by
  unfold Qk at h;cases ha:step a n with
  | none=>rw [ha] at h;cases h
  | some y=>
   rw [ha,Sw,VZ] at h;obtain ⟨z,h1,h2⟩:=h;injection h2 with h2 h3;subst h2 h3;rw [TY];show (step a n).bind _=_;rw [ha,Sw,ZQ l x y.2 z.1 z.2 h1,Option.map_map];cases step x z.2 with
   | none=>rfl
   | some u=>rfl
theorem D8 {α β:Type}{step:α->Nat->Option (β×Nat)}:∀(l k:List α) (n:Nat),Qk step l n=none->Qk step (l++k) n=none
 | [],k,n,h=>by unfold Qk at h;cases h
 | a::l,k,n,h=>by
  unfold Qk at h;rw [TY];show (step a n).bind _=none;cases ha:step a n with
  | none=>rfl
  | some y=>
   rw [ha,Sw,Option.map_eq_none_iff] at h;rw [Sw,D8 l k y.2 h]
   rfl
theorem Nq {α β:Type}{step:α->Nat->Option (β×Nat)}:∀(l:List α) (n:Nat) (ts:List β) (m:Nat),Qk step l n=some (ts,m)->ts.length=l.length
 | [],n,ts,m,h=>by
  unfold Qk at h;injection h with h;injection h with h1 _;subst h1
  rfl
 | a::l,n,ts,m,h=>by
  unfold Qk at h;cases ha:step a n with
  | none=>rw [ha] at h;cases h
  | some y=>
   rw [ha,Sw,VZ] at h;obtain ⟨z,h1,h2⟩:=h;injection h2 with h2 _;subst h2;rw [Rj,Rj,Nq l y.2 z.1 z.2 h1]
theorem qf0 {α β:Type}{step:α->Nat->Option (β×Nat)}(hs:∀x n y,step x n=some y->n<=y.2):∀(l:List α) (n:Nat) (z:List β×Nat),Qk step l n=some z->n<=z.2
 | [],n,z,h=>by
  unfold Qk at h;injection h with h;subst h;exact P6 _
 | a::l,n,z,h=>by
  unfold Qk at h;cases ha:step a n with
  | none=>rw [ha] at h;cases h
  | some y=>
   rw [ha,Sw,VZ] at h;obtain ⟨u,h1,h2⟩:=h;have:=qf0 hs l y.2 u h1;have:=hs a n y ha;subst h2;dsimp only;omega
theorem NN (k:Kn)(fs:List Pu):∀(f n:Nat) (R:List Rw) (ak:List (List Nat)) (y:Tr f×Nat),Q4 k fs f n R ak=some y->n<=y.2
 | 0,n,R,ak,y,h=>by unfold Q4 at h;cases h
 | f+1,n,R,ak,y,h=>by
  unfold Q4 at h;by_cases hn:5000<=n
  ·rw [Pc hn] at h;cases h
  rw [P7 hn] at h;cases R with
  | nil=>
   injection h with h;subst h;exact YC _
  | cons r R'=>
   dsimp only at h;cases hc:r.2.findIdx? (λp=> !Pm p) with
   | none=>
    rw [hc] at h;injection h with h;subst h;exact YC _
   | some c=>
    rw [hc] at h;dsimp only at h;rw [NP] at h;obtain ⟨a,h1,h2⟩:=h;have g1:=qf0 (λx m z hz=>NN k fs f m _ _ z hz) _ _ _ h1;by_cases hf:Ss k fs (Pg k (Pq c (r::R')))=true
    ·rw [Pc hf] at h2;injection h2 with h2;subst h2;dsimp only;omega
    rw [P7 hf,VZ] at h2;obtain ⟨e,h3,h4⟩:=h2;have g2:=NN k fs f _ _ _ e h3;subst h4;dsimp only;omega
structure Cz (f:Nat)(step:Cs->Nat->Option (Tr f×Nat))(cs:List Cs)(n T:Nat)(pv:Value)(W:World)(i m:Nat)(cv:Value)(wr:World):Prop where
 keep:Kx T W wr
 blk:wr.heap[T]? =some (.cells #[.int .i64 3,.int .i64 0,pv,cv,.slice none 0 0] 30 (0,0))
 made:∃ts,Qk step (cs.take i) (n+1)=some (ts,m)/\Pi (RY f) 53 W.heap.size No wr cv ((cs.take i).zip ts)
 cnt:n+1<=m/\m<=5000
theorem EU {α β:Type}:∀(a:List α) (b:List β) (x:α) (y:β),a.length=b.length->(a++[x]).zip (b++[y])=a.zip b++[(x,y)]
 | [],[],_,_,_=>rfl
 | _::a,_::b,x,y,h=>by
  rw [TY,TY,ZG,EU a b x y (by simpa using h)]
  rfl
theorem No.lt:∀y,No y->y<B:=λ_ h=>h.elim
theorem Fh {wr V:World}{pa:Option Addr}{pl pc:Nat}{ca:Option Addr}{cl cc:Nat}{path:List Nat}{l:List (Cs×Tr f)}{x0 x1 x2 x3 x4:Value}{t:Tr f}(hT:w.heap.size<T)(bb4:T<B)(hB:B<=wr.heap.size)(hp:Pv wr (λy=>w.heap.size<y/\y<T) (.slice pa pl pc) path)(hc:Pi (RY f) 53 B No wr (.slice ca cl cc) l)
  (hb:Below wr.heap.size wr w11) (ht:PL w11 (λy=>wr.heap.size<=y/\y<w11.heap.size) f (.agg #[x0,x1,x2,x3,x4]) t) (hs:w11.heap.size+2<=V.heap.size) (hV:∀y,y<w11.heap.size->y≠T->y≠w.heap.size->V.heap[y]? =w11.heap[y]?) (hE:V.heap[w11.heap.size+1]? =some (.cells #[x0,x1,x2,x3,x4] 30 (0,0))):
  PL V (λy=>w.heap.size<=y/\y<V.heap.size) (f+1) (.agg #[.int .i64 3,.int .i64 0,.slice pa pl pc,.slice ca cl cc,.slice (some ⟨w11.heap.size+1,0,none⟩) 1 1]) ((3,0,path),l,[t]):=by
 have hbs:=hb.size;have nV:∀y,y<wr.heap.size->y≠T->y≠w.heap.size->V.heap[y]? =wr.heap[y]? :=λy h1 h2 h3=>(hV y (by omega) h2 h3).trans (hb.block y h1);obtain ⟨pa',pc',e1⟩:=Pd.len hp;injection e1 with e1 e2 e3;subst e1 e3;obtain ⟨ca',cc',e4⟩:=Own.len hc;injection e4 with e4 e5 e6;subst e4 e6;refine ⟨pa,pc,ca,cc,some ⟨w11.heap.size+1,0,none⟩,1,by rw [e2,e5];rfl,?_,?_,?_⟩
 ·rw [e2] at hp;exact (hp.on λy hy=>nV y (by omega) (by omega) (by omega)).up λy hy=>⟨by omega,by omega⟩
 ·rw [e5] at hc;refine PC.cases (S:=λy=>No y\/(B<=y/\y<wr.heap.size)) ((Pi.rowE hc).on (λy hy=>nV y hy.2 (by omega) (by omega)) (λy hy=> ?_) (λ_ h=>h) λ_ h=>h) (λy hy=>⟨by omega,by omega⟩) λy hy=> ?_
  ·rcases hy with hy | hy
   ·exact hy.elim
   exact nV y hy.2 (by omega) (by omega)
  rcases hy with hy | hy
  ·exact hy.elim
  exact ⟨by omega,by omega⟩
 refine .inr ⟨w11.heap.size+1,0,1,rfl,by simp,P6 _,λj hj=> ?_⟩;obtain rfl:j=0:=by simpa using hj
 refine ⟨⟨by omega,by omega⟩,x0,x1,x2,x3,x4,P5 hE rfl,P5 hE rfl,P5 hE rfl,P5 hE rfl,P5 hE rfl,?_⟩;exact PL.below (λy hy=>hV y hy.2 (by omega) (by omega)) (λy hy=>⟨by omega,by omega⟩) f _ _ ht
theorem qh0 {pv cv:Value}{o:Obj}(h:w11.heap[T]? =some (.cells #[.int .i64 3,.int .i64 0,pv,cv,.slice none 0 0] 30 (0,0))):∃A,A=((w11.setCell ⟨T,4,none⟩ (.slice (some ⟨w11.heap.size+1,0,none⟩) 1 1)).alloc o).alloc o/\A.heap[T]? =some (.cells #[.int .i64 3,.int .i64 0,pv,cv,.slice (some ⟨w11.heap.size+1,0,none⟩) 1 1] 30 (0,0))/\A.heap[w11.heap.size+1]? =some o/\A.heap.size=w11.heap.size+2/\(∀y,y<w11.heap.size->y≠T->A.heap[y]? =w11.heap[y]?)/\A.os=w11.os/\A.tape=w11.tape/\A.output=w11.output:=by
 have hT:=PV h;have e1:(w11.setCell ⟨T,4,none⟩ (.slice (some ⟨w11.heap.size+1,0,none⟩) 1 1)).heap.size=w11.heap.size:=by simp [World.setCell]
 have b1:=(Pb (w11.setCell ⟨T,4,none⟩ (.slice (some ⟨w11.heap.size+1,0,none⟩) 1 1)).heap.size (w11.setCell ⟨T,4,none⟩ (.slice (some ⟨w11.heap.size+1,0,none⟩) 1 1))).alloc (P6 _) o;have e2:((w11.setCell ⟨T,4,none⟩ (.slice (some ⟨w11.heap.size+1,0,none⟩) 1 1)).alloc o).heap.size=w11.heap.size+1:=by simp [World.setCell]
 have b2:=b1.alloc b1.size o;refine ⟨_,rfl,?_,?_,by simp [World.setCell],λy hy am=> ?_,rfl,rfl,rfl⟩
 ·rw [b2.block T (by rw [e1];exact hT)];exact Q5 h
 ·have:=PF ((w11.setCell ⟨T,4,none⟩ (.slice (some ⟨w11.heap.size+1,0,none⟩) 1 1)).alloc o) o
  rwa [e2] at this
 rw [b2.block y (by rw [e1];exact hy)];exact PX _ _ _ _ am
end
theorem VU {k:Kn}{fs:List Pu}{fa:Option Addr}{fc f:Nat}(hk:KnOk k fs)(IH:YA k fs fa fc f){n:Nat}{r:Rw}{R':List Rw}{ak:List (List Nat)}{rv av:Value}{S:Nat->Prop}{w:World}(h:RefIn k fs fa fc (f+1) n (r::R') ak rv av S w)(hn:n<5000){c:Nat}(bg:c<r.2.length)(hf:r.2.findIdx? (λp=> !Pm p)=some c)(h3:r.2[c].kind=3):
  Calls Tryz.prog 23 #[.slice fa fs.length fc,rv,av,.int .i64 (5000-(n:Int))] w (Uc k fs (f+1) n (r::R') ak w):=by
 have hS:=h.set;have hR:=h.rows;have hA:=h.paths;have gY:c<ak.length:=by rw [<-h.rp.wid r (by simp)];exact bg
 obtain ⟨ad,cap,rfl⟩:=Pd.len hR;obtain ⟨bk4,lI,rfl⟩:=Pd.len hA;obtain ⟨g,o,rfl,aM,sg,r0,pa,pc,r1,hp⟩:=hR.rowAt (i:=0) (by simp);rw [Uk,TO] at r0 r1;have ub:w.cell? ⟨g,o,none⟩=some (.int .i64 r.1):=r0;have wl:w.cell? ⟨g,o+1,none⟩=some (.slice pa r.2.length pc):=r1;have gN:Pl w S (.slice pa r.2.length pc) r.2:=hp;obtain ⟨gp,op,rfl,bw3,yU,q0,-⟩:=gN.at bg;rw [h3] at q0;obtain ⟨ga,oa,rfl,bn3,yW,dH,dI,t0,hpt⟩:=hA.pathAt gY;have dh:g<w.heap.size:=hS g sg;have qS:gp<w.heap.size:=hS gp yU;have nW:ga<w.heap.size:=hS ga yW;have qT:ak.length<=50000:=by have:=h.rp.many;have:=h.fuel;omega
 have cH:r.2.length<=50000:=by rw [h.rp.wid r (by simp)];exact qT
 have iT:∀p∈ak,p.length<=50000:=λp hp=>by have:=h.rp.deep p hp;omega
 have cu:Below w.heap.size w (w.alloc (.cells SM 30)):=(Pb _ _).alloc (P6 _) _;have ud:=OZ.of cu hS;have CF:=KV (r.1:Int) _ _ (λy hy=>PQ (hS y hy) cu.size) (gN.on ud) (by omega);rw [hf,show Zk (some c)=(c:Int) from rfl] at CF;have aE:(w.alloc (.cells SM 30)).heap[w.heap.size]? =some (.cells SM 30 (0,0)):=PF _ _;have HA:Hid (∀W',Below w.heap.size w W'->W'.cell? ⟨g,o,none⟩=some (.int .i64 r.1)/\W'.cell? ⟨g,o+1,none⟩=some (.slice (some ⟨gp,op,none⟩) r.2.length pc)/\W'.cell? ⟨gp,op+c*4,none⟩=some (.int .i64 3)/\W'.cell? ⟨ga,oa+c,none⟩=some (.slice dH ak[c].length dI)/\Pv W' S (.slice dH ak[c].length dI) ak[c]):=λW' aj=>
  ⟨(aj.cell (p:=⟨g,o,none⟩) dh).trans ub,(aj.cell (p:=⟨g,o+1,none⟩) dh).trans wl,(aj.cell (p:=⟨gp,op+c*4,none⟩) qS).trans q0,(aj.cell (p:=⟨ga,oa+c,none⟩) nW).trans t0,hpt.on (OZ.of aj hS)⟩
 have fD:Hid (∀W',Below w.heap.size w W'->PC Qc W' S S (.slice (some ⟨g,o,none⟩) (r::R').length cap) (r::R')/\PC Qp W' S S (.slice (some ⟨ga,oa,none⟩) ak.length lI) ak/\PH W' S (.slice fa fs.length fc) fs):=λW' aj=>
  ⟨hR.on (OZ.of aj hS) (OZ.of aj hS) (λ_ h=>h) λ_ h=>h,hA.on (OZ.of aj hS) (OZ.of aj hS) (λ_ h=>h) λ_ h=>h,h.fams.on (OZ.of aj hS)⟩
 have br:=P4 h;have HS:=P4 hS;have dE:=Qh cu aE;obtain ⟨n1,cR⟩:∃n1,n1=n+1:=⟨_,rfl⟩;have x0:IntKind.i64.wrap (5000-(n:Int)-1)=5000-(n1:Int):=by rw [RV];omega
 have x1:¬(5000-(n1:Int))<0:=by omega
 have i':=P4 cR;have jj:Hid (Ss k fs (Pg k (Pq c (r::R')))=false->Q4 k fs (f+1) n (r::R') ak=(Qk (λx m=>Q4 k fs f m (QJ k (r::R') c x) (S2 ak c (O' k x.1).2.2)) (Pg k (Pq c (r::R'))) (n+1)).bind λa=>(Q4 k fs f a.2 (RA (r::R') c) (S2 ak c 0)).map λe=>(((3,0,ak.getD c []),(Pg k (Pq c (r::R'))).zip a.1,[e.1]),e.2)):=λks=>by
  conv=>lhs;unfold Q4
  rw [P7 (by omega)];dsimp only;rw [hf];dsimp only;rw [ks]
  rfl
 have HN:=P4 hn;have hz:¬((R'.length:Int)+1)=0:=by omega
 have bJ:(0:Int)<(R'.length:Int)+1:=by omega
 have yS:(R'.length+1=0)=False:=by simp
 have c1:(0:Int)<=(c:Int):=by omega
 have c2:(c:Int)<(r.2.length:Int):=by omega
 have c3:(c:Int)<(ak.length:Int):=by omega
 have c4:¬(c:Int)<0:=by omega
 have mD:=P4 h3;have Dy:Hid (ak[c].length<=50000):=iT _ (Px gY);have Dz:Hid (∀W',Below w.heap.size w W'->Calls Tryz.prog 39 #[.slice (some ⟨ga,oa,none⟩) ak.length lI,.int .i64 c,.int .i64 0] W' λr w'=>∃v,r= .returned v/\Below W'.heap.size W' w'/\Pi Qp 26 W'.heap.size S w' v (Zp ak c 0)):=λW' aj=>JU _ ak c 0 (λy hy=>PQ (hS y hy) aj.size) (fD.out W' aj).2.1 gY (by omega) (by omega) λp hp=>by have:=iT p hp;omega
 have DA:Hid (∀W',Below w.heap.size w W'->Calls Tryz.prog 40 #[.slice (some ⟨g,o,none⟩) (R'.length+1) cap,.int .i64 c] W' λq w'=>∃v,q= .returned v/\Below W'.heap.size W' w'/\Own SQ 3 W'.heap.size w' No v (Qu c (r::R'))):=λW' aj=>va1 _ _ c (λy hy=>PQ (hS y hy) aj.size) (fD.out W' aj).1 (λq hq=>by rw [h.rp.wid q hq];exact gY) (by have:=h.rp.num;omega) (λq hq=>by rw [h.rp.wid q hq];omega);clear cR hn ud aE cu hR hA r0 r1 hp gN h hS sg yU yW hpt iT cH qT h3 hf;have aA:(r::R').length=R'.length+1:=rfl;rw [aA] at aM⊢;generalize DB:ak[c].length=pl at *
 go_enter Tryz.func23,Tryz.ntmps23
 go_wp2_with (first
  | (go_at_call 38;(with_reducible refine Pe CF ?_);rintro e' w1 ⟨rfl,hb1⟩;have aR:=dE.1.trans (hb1.mono dE.1.size);obtain ⟨f0,f1,f2,f3,f4⟩:=HA.out w1 aR;have ay5:ga<w1.heap.size:=PQ nW aR.size;have cG:∀y,S y->y<w1.heap.size:=(λy hy=>PQ (HS.out y hy) aR.size);have O1:=Pi.made S9 3 w1 S cG;have E1:PC S9 (w1.alloc (.cells #[] 3)) S (RL S w1.heap.size (w1.alloc (.cells #[] 3)) (.slice (some ⟨w1.heap.size,0,none⟩) 0 0)) (.slice dH pl dI) ak[c]:=Pv.toE (f4.on (OZ.of ((Pb _ _).alloc (P6 _) _) cG));have ck:w1.heap.size<=(w1.alloc (.cells #[] 3)).heap.size:=(by simp);have nX:([]:List Nat).length+ak[c].length<=10000000:=(by have:=Dy.out;simp;omega))
  | (go_at_call 39;rw [<-eC];(with_reducible refine Pe CP ?_);rintro e' w4 ⟨ov,rfl,hb4,O4⟩;have bY:=dL.trans (hb4.mono dL.size);obtain ⟨j0,j1,j2,j3,j4⟩:=HA.out w4 bY;have CN:=DA.out w4 bY)
  | (go_at_call 40;(with_reducible refine Pe CN ?_);rintro e' w5 ⟨lv,rfl,hb5,O5⟩;obtain ⟨la,lc,e5,wn⟩:=O5.ints;subst e5)
  | (at_builtin;refine Yg (E:=S9) (Z:=S) (w1:=w1.alloc (.cells #[] 3)) (v:= .slice (some ⟨w1.heap.size,0,none⟩) 0 0) (S:=S) Tryz.ty26 rfl _ _ rfl (l:=[]) rfl O1 cG ck (Pb _ _) rfl (m:=ak[c]) E1 nX ?_;intro v2 w2 O2 B2 _;rw [VP] at O2;obtain ⟨ad2,cap2,e2⟩:=Own.len O2;rw [DB] at e2;subst e2;have eV:Below w.heap.size w w2:=(aR.alloc aR.size _).trans (B2.mono aR.size);obtain ⟨W3,eC⟩:∃W3,W3=w2.alloc (.cells #[.int .i64 3,.int .i64 0,.slice ad2 pl cap2,.slice none 0 0,.slice none 0 0] 30):=⟨_,rfl⟩;have hb3:Below w2.heap.size w2 W3:=(by rw [eC];exact (Pb _ _).alloc (P6 _) _);have fu:Hid (W3.heap[w2.heap.size]? =some (.cells #[.int .i64 3,.int .i64 0,.slice ad2 pl cap2,.slice none 0 0,.slice none 0 0] 30 (0,0))):=(by rw [eC];exact PF _ _);have dL:Below w.heap.size w W3:=eV.trans (hb3.mono eV.size);have CP:=Dz.out W3 dL))
 have bz:Hid (Below w.heap.size w w5/\w.heap.size<w2.heap.size/\w2.heap.size<W3.heap.size/\W3.heap.size<=w4.heap.size/\w4.heap.size<=w5.heap.size):=by
  have h0:=PV dE.2;have h1:=hb1.size;have h2:=B2.size;have h3:w1.heap.size<=(w1.alloc (.cells #[] 3)).heap.size:=by simp
  exact ⟨bY.trans (hb5.mono bY.size),by omega,PV fu.out,hb4.size,hb5.size⟩
 have k9:Hid (w5.heap[w2.heap.size]? =some (.cells #[.int .i64 3,.int .i64 0,.slice ad2 pl cap2,.slice none 0 0,.slice none 0 0] 30 (0,0))):=by
  have:=bz.out;exact (hb5.block _ (by omega)).trans ((hb4.block _ (by omega)).trans fu.out)
 have H5:Hid (Pi Qp 26 W3.heap.size S w5 ov (Zp ak c 0)):=O4.on (λy hy=>PQ (HS.out y hy) dL.size) hb4.size hb5;have pS:Hid (Pi S9 3 w1.heap.size S w2 (.slice ad2 pl cap2) ak[c]/\w.heap.size<w1.heap.size):=⟨O2,by have h0:=PV dE.2;have h1:=hb1.size;omega⟩;have yY:=P4 wn;have qU:Hid (∀W',Kx w2.heap.size w5 W'->Below w.heap.size w W'/\PC Qp W' (λy=>S y\/(w2.heap.size<y/\y<w5.heap.size)) (λy=>S y\/(w2.heap.size<y/\y<w5.heap.size)) ov (S2 ak c 0)/\(∀i (h:i<(Qu c (r::R')).length),∃gl,la=some ⟨gl,0,none⟩/\(Qu c (r::R')).length<=lc/\gl<w5.heap.size/\gl≠w2.heap.size/\W'.cell? ⟨gl,i,none⟩=some (.int .i64 (Qu c (r::R'))[i]))/\Pv W' (λy=>w.heap.size<y/\y<w2.heap.size) (.slice ad2 pl cap2) ak[c]):=λW' bU=>by
  obtain ⟨m1,m2,m3,m4,m5⟩:=bz.out;refine ⟨m1.trans (bU.below (by omega) m1.size),?_,λi hi=> ?_,?_⟩
  ·have h1:=Pi.rowE H5.out;refine h1.on (λy hy=>bU.block y hy.2 (by omega)) (λy hy=> ?_) (λy hy=> .inr ⟨by omega,hy.2⟩) λy hy=>hy.imp id λh=>⟨by omega,h.2⟩;rcases hy with hy | hy
   ·have:=HS.out y hy;exact bU.block y (by omega) (by omega)
   exact bU.block y hy.2 (by omega)
  ·rcases id yY.2 with ⟨_,h0⟩ | ⟨gl,cp,cur,e,h1,h2,h4,_⟩
   ·omega
   injection e with e1 _ e2;subst e1 e2;have hlt:=PV h2;refine ⟨gl,rfl,h4,hlt,by omega,?_⟩;have h6:=World.ownsRow.cellAt yY.out i (by omega);rw [Ut (a:=⟨gl,i,none⟩) (bU.block gl hlt (by omega)),h6,X8,PR hi]
   rfl
  have h1:=PC.toNats (Pi.rowE pS.1);have h2:=pS.2;refine (h1.on λy hy=> ?_).up λy hy=>⟨by omega,hy.2⟩;exact (bU.block y (by omega) (by omega)).trans ((hb5.block y (by omega)).trans ((hb4.block y (by omega)).trans (hb3.block y hy.2)))
 obtain ⟨L,hL⟩:∃L,L=Qu c (r::R'):=⟨_,rfl⟩;have bh:=br.out;have eh:((r.1,r.2[c]):Sp)∈Pq c (r::R'):=by
  rw [TQ];refine SE.2 ⟨r,by simp,Uo.2 ⟨rfl,PR _,?_⟩⟩;unfold Pm;rw [mD.out]
  decide
 have iW:Hid (Pg k (Pq c (r::R'))=L.map λx=>(([],x):Cs)):=by
  show _=_;rw [hL];exact ur1 hk (bh.rp.right c).together eh mD.out
 have jk:Hid (Ss k fs (Pg k (Pq c (r::R')))=false):=by
  show _=_;rw [iW.out];cases L with
  | nil=>rfl
  | cons a b=>rfl
 have nY:Hid (∀(wr w6 W7:World) (m:Nat) (R2:List Rw) (sv:Value),Kx w2.heap.size w5 wr->Below wr.heap.size wr w6->Pi Qc 60 wr.heap.size S w6 sv R2->Below w6.heap.size w6 W7->n+1<=m->m<=5000->RP k f R2 (S2 ak c 0)->Calls Tryz.prog 23 #[.slice fa fs.length fc,sv,ov,.int .i64 (5000-(m:Int))] W7 (Uc k fs f m R2 (S2 ak c 0) W7)):=λwr w6 W7 m R2 sv bU hb6 hO hb7 mC hm2 wo=>by
  obtain ⟨m1,m2,m3,m4,m5⟩:=bz.out;obtain ⟨p1,p2,p3,_⟩:=qU.out wr bU;have jl:Below wr.heap.size wr W7:=hb6.trans (hb7.mono hb6.size);have jm:Below w.heap.size w W7:=p1.trans (jl.mono p1.size);have qF:=bU.size;have aq3:=hb7.size;have aj4:=hb6.size;refine IH m _ _ sv ov (λy=>S y\/(w2.heap.size<y/\y<W7.heap.size)) W7 ⟨⟨by have:=bh.fuel;omega,by have:=bh.fuel;omega⟩,hm2,λy hy=> ?_,((fD.out W7 jm).2.2).up λ_ h=> .inl h,?_,?_,wo⟩
  ·rcases hy with hy | hy
   ·have:=HS.out y hy;have:=jm.size;omega
   exact hy.2
  ·refine (Pi.rowE hO).on (OZ.of hb7 λy hy=>hy.2) (OZ.of hb7 λy hy=> ?_) (λy hy=> .inr ⟨by omega,by omega⟩) λy hy=>hy.imp id λh=>⟨by omega,by omega⟩;rcases hy with hy | hy
   ·have:=HS.out y hy;have:=p1.size;omega
   exact hy.2
  have hlt:∀y,(S y\/(w2.heap.size<y/\y<w5.heap.size))->y<wr.heap.size:=λy hy=>by
   rcases hy with hy | hy
   ·have:=HS.out y hy;have:=p1.size;omega
   omega
  exact p2.on (OZ.of jl hlt) (OZ.of jl hlt) (λy hy=>hy.imp id λh=>⟨h.1,by have:=hlt y (.inr h);omega⟩) λy hy=>hy.imp id λh=>⟨h.1,by have:=hlt y (.inr h);omega⟩
 have sR:Hid (∀(wr w6 W7:World) (m:Nat) (v:Int) (sv:Value),Kx w2.heap.size w5 wr->Below wr.heap.size wr w6->Pi Qc 60 wr.heap.size S w6 sv (Pw (TJ c v) c (r::R'))->W7=w6.alloc (.cells SM 30)->n+1<=m->m<=5000->v∈L->Calls Tryz.prog 23 #[.slice fa fs.length fc,sv,ov,.int .i64 (5000-(m:Int))] W7 (Uc k fs f m (Pw (TJ c v) c (r::R')) (S2 ak c 0) W7)):=λwr w6 W7 m v sv bU hb6 hO DC mC hm2 hv=>by
  have hx:(([],v):Cs)∈Pg k (Pq c (r::R')):=by
   rw [iW.out];exact PI.2 ⟨v,hv,rfl⟩
  have wo:=bh.rp.case hk (by have:=bh.fuel;omega) gY hx
  rw [pn0 hk,Xr hk] at wo;exact nY.out wr w6 W7 m _ sv bU hb6 hO (by rw [DC];exact (Pb _ _).alloc (P6 _) _) mC hm2 wo
 have nL:=P4 (bh.rp.rest hk (by have:=bh.fuel;omega) gY);have pT:Hid (∀(wr:World),Kx w2.heap.size w5 wr->Calls Tryz.prog 45 #[.slice (some ⟨g,o,none⟩) (R'.length+1) cap,.int .i64 c] wr λq w'=>∃sv,q= .returned sv/\Below wr.heap.size wr w'/\Pi Qc 60 wr.heap.size S w' sv (RA (r::R') c)):=λwr bU=>by
  obtain ⟨p1,_⟩:=qU.out wr bU;exact px0 _ _ c (λy hy=>PQ (HS.out y hy) p1.size) (fD.out wr p1).1 (λq hq=>by rw [bh.rp.wid q hq];exact gY) (by have:=bh.rp.num;omega) (λq hq=>by rw [bh.rp.wid q hq];have:=bh.rp.many;have:=bh.fuel;omega)
 have cE:Hid (∀(wr:World) (v:Int),Kx w2.heap.size w5 wr->Calls Tryz.prog 41 #[.slice (some ⟨g,o,none⟩) (R'.length+1) cap,.int .i64 c,.int .i64 v] wr λq w'=>∃sv,q= .returned sv/\Below wr.heap.size wr w'/\Pi Qc 60 wr.heap.size S w' sv (Pw (TJ c v) c (r::R'))):=λwr v bU=>by
  obtain ⟨p1,_⟩:=qU.out wr bU;exact X4 _ _ c v (λy hy=>PQ (HS.out y hy) p1.size) (fD.out wr p1).1 (λq hq=>by rw [bh.rp.wid q hq];exact gY) (by have:=bh.rp.num;omega) (λq hq=>by rw [bh.rp.wid q hq];have:=bh.rp.many;have:=bh.fuel;omega)
 have cd2:∀W',Kx w2.heap.size w5 W'->W'.heap[w.heap.size]? =some (.cells SM 30 (0,0)):=λW' bU=>by
  obtain ⟨m1,m2,m3,m4,m5⟩:=bz.out;have h0:=PV dE.2;have h1:=hb1.size;have h2:w1.heap.size<=(w1.alloc (.cells #[] 3)).heap.size:=by simp
  have h3:=B2.size;refine (bU.block _ (by omega) (by omega)).trans ((hb5.block _ (by omega)).trans ((hb4.block _ (by omega)).trans ((hb3.block _ (by omega)).trans ?_)));exact (B2.block _ (by omega)).trans ((((Pb w1.heap.size w1).alloc (P6 _) (.cells #[] 3)).block _ (by omega)).trans ((hb1.block _ h0).trans dE.2))
 rw [<-hL] at qU;rw [<-hL];have bz2:=P4 hL;clear hL bh eh;clear yY wn O5 O4 O2 O1 E1 CP CN CF hb5 hb4 B2 fu j0 j1 j2 j3 j4 f0 f1 f2 f3 f4 ub wl q0 t0 nX ck hb3 bY dL eV eC H5 pS;generalize w2.heap.size=T at *
 have ac3:L.length<=200:=by
  have h1:=yX c (r::R') [];have h2:=br.rp.num;rw [bz2.out];unfold Qu;simp at h1 h2⊢;omega
 have kt:=P4 cd2
 go_loopw [3,14] (λlv iv wr=>∃(i m:Nat) (ca:Option Addr) (cl cc:Nat),i<=L.length/\iv= .int .i64 i/\lv= .int .i64 (5000-(m:Int))/\Hid (Cz f (λx m=>Q4 k fs f m (QJ k (r::R') c x) (S2 ak c (O' k x.1).2.2)) (Pg k (Pq c (r::R'))) n T (.slice ad2 pl cap2) w5 i m (.slice ca cl cc) wr)) (λ_ iv _=>L.length-(intOf iv).toNat)
 case atStart=>exact ⟨0,n1,none,0,0,by omega,by go_num,rfl,⟨Kx.refl _ _,k9.out,⟨[],by rw [i'.out];rfl,Pi.nil _ _ _ _ _⟩,by rw [i'.out];exact ⟨P6 _,HN.out⟩⟩⟩
 obtain ⟨i,m,ca,cl,cc,hi,rfl,rfl,HZ⟩:=hrel;have hkx:=HZ.keep;obtain ⟨p1,p2,p3,p4⟩:=qU.out wr hkx;by_cases ag:i<L.length
 ·obtain ⟨gl,rfl,wu,qV,af7,y0⟩:=p3 i ag;have i1:(0:Int)<=(i:Int):=by omega
  have i2:(i:Int)<(L.length:Int):=by omega
  have CI:=cE.out wr L[i] hkx;have aX:=HZ.cnt;have CT:∀w6 sv,Below wr.heap.size wr w6->Pi Qc 60 wr.heap.size S w6 sv (Pw (TJ c L[i]) c (r::R'))->_:=λw6 sv hb hO=>sR.out wr w6 _ m L[i] sv hkx hb hO rfl aX.1 aX.2 (Px ag);have fy:Hid ((Pg k (Pq c (r::R'))).take (i+1)=(Pg k (Pq c (r::R'))).take i++[([],L[i])]/\∀m,Q4 k fs f m (QJ k (r::R') c ([],L[i])) (S2 ak c (O' k []).2.2)=Q4 k fs f m (Pw (TJ c L[i]) c (r::R')) (S2 ak c 0)):=by
   refine ⟨?_,λm=>by rw [pn0 hk,Xr hk]⟩;rw [iW.out,S1,X8,PR ag]
   rfl
  generalize L[i]=v at *
  clear p2 p3 p4 aX;have bD:Hid (T<wr.heap.size/\w5.heap.size<=wr.heap.size):=⟨by have:=bz.out;have:=hkx.size;omega,hkx.size⟩
  go_upto_region 17 with (first | (go_at_call 41;(with_reducible refine Pe CI ?_);rintro e' w6 ⟨sv,rfl,hb6,O6⟩;have kR:=CT w6 sv hb6 O6))
  have bp4:=P4 y0;clear CI CT O6 y0
  go_upto_region 18 with fail
  go_upto_region 19 with (first
   | (go_at_call 23;(with_reducible refine Pe kR ?_);rintro e' w8 ue;obtain ⟨hb8,xa,xb,jM,jN,jO,jP,jQ,jR,jS,jT,jU,lv,rfl,Bz⟩:=ue.flat;have fM:=(hb8.block w6.heap.size (by simp)).trans (PF w6 (.cells SM 30));have s0:=P5 fM (i:=0) rfl;have s1:=P5 fM (i:=1) rfl;have s2:=P5 fM (i:=2) rfl;have s3:=P5 fM (i:=3) rfl;have s4:=P5 fM (i:=4) rfl;have z0:=Pp (o:=0) fM;have z1:=Pp (o:=1) fM;have z2:=Pp (o:=2) fM;have z3:=Pp (o:=3) fM;have z4:=Pp (o:=4) fM))
  obtain ⟨U,hU,jB,bj,c9,aP⟩:=Ud fM (.int .i64 xa) (.int .i64 xb) (.slice jM jN jO) (.slice jP jQ jR) (.slice jS jT jU);rw [<-hU];have fe:Below wr.heap.size wr w8:=(hb6.alloc hb6.size _).trans (hb8.mono (by have:=hb6.size;simp;omega));have ii:Below wr.heap.size wr U:=⟨aP.1.trans fe.os,aP.2.1.trans fe.tape,aP.2.2.trans fe.output,by rw [bj];exact fe.size,λy hy=>(c9 y (by have:=hb6.size;omega)).trans (fe.block y hy)⟩;have nK:=P4 ii;have cB:U.heap[w.heap.size]? =some (.cells #[.int .i64 0,.int .i64 0,.slice none 0 0,.slice none 0 0,.slice none 0 0] 30 (0,0)):=(ii.block _ (by have:=bD.out;have:=bz.out;omega)).trans (kt.out wr HZ.keep);have lJ:Below w.heap.size w U:=p1.trans (ii.mono p1.size);have HX:Hid (w6.heap.size<U.heap.size/\wr.heap.size<=w6.heap.size/\∀t,PL w8 (λy=>(w6.alloc (.cells SM 30)).heap.size<=y/\y<w8.heap.size) f (.agg #[.int .i64 xa,.int .i64 xb,.slice jM jN jO,.slice jP jQ jR,.slice jS jT jU]) t->PL U (λy=>w6.heap.size<y/\y<U.heap.size) f (.agg #[.int .i64 xa,.int .i64 xb,.slice jM jN jO,.slice jP jQ jR,.slice jS jT jU]) t):=by
   refine ⟨PV jB,hb6.size,λt ht=>PL.below (λy hy=>c9 y (by have:=hy.1;simp at this;omega)) (λy hy=>⟨by have:=hy.1;simp at this;omega,by rw [bj];exact hy.2⟩) f _ _ ht⟩
  clear s0 s1 s2 s3 s4 z0 z1 z2 z3 z4 fM bj c9 aP hU fe kR ue hb8;by_cases jz:lv<0
  ·obtain ⟨eD,mH⟩:=Bz.1 jz;have cY:Hid (Q4 k fs (f+1) n (r::R') ak=none):=by
    obtain ⟨ts,e1,_⟩:=HZ.made;have e2:=ZQ _ ([],v) _ _ _ e1;have e3:Qk (λx m=>Q4 k fs f m (QJ k (r::R') c x) (S2 ak c (O' k x.1).2.2)) (Pg k (Pq c (r::R'))) (n+1)=none:=by
     conv=>lhs;rw [<-Ug (i+1) (Pg k (Pq c (r::R')))]
     refine D8 _ _ _ ?_;rw [fy.out.1,e2,fy.out.2,mH]
     rfl
    show _=_;rw [jj.out jk.out,e3]
    rfl
   subst eD;have s0:=P5 cB (i:=0) rfl;have s1:=P5 cB (i:=1) rfl;have s2:=P5 cB (i:=2) rfl;have s3:=P5 cB (i:=3) rfl;have s4:=P5 cB (i:=4) rfl;have z0:=Pp (o:=0) cB;have z1:=Pp (o:=1) cB;have z2:=Pp (o:=2) cB;have z3:=Pp (o:=3) cB;have z4:=Pp (o:=4) cB;go_wp2;obtain ⟨V,hV,eG,j5,gZ,ku⟩:=Ud cB (.int .i64 0) (.int .i64 0) (.slice none 0 0) (.slice none 0 0) (.slice none 0 0);rw [<-hV];have u0:=P5 eG (i:=0) rfl;have u1:=P5 eG (i:=1) rfl;have u2:=P5 eG (i:=2) rfl;have u3:=P5 eG (i:=3) rfl;have u4:=P5 eG (i:=4) rfl;refine Qv (v:= .tuple #[.agg #[.int .i64 0,.int .i64 0,.slice none 0 0,.slice none 0 0,.slice none 0 0],.int .i64 (-1)]) (by simp [results,Tryz.results23,go_sem,u0,u1,u2,u3,u4]) rfl ?_;exact ⟨Zx lJ j5 gZ ku,.inl ⟨cY.out,_,_,_,_,_,_,_,_,_,_,_,rfl⟩⟩
  obtain ⟨t,m',ig,uf,nZ,kZ⟩:=Bz.2 (by omega);have HRS:=Qh ig uf;have mO:U.heap[T]? =some (.cells #[.int .i64 3,.int .i64 0,.slice ad2 pl cap2,.slice ca cl cc,.slice none 0 0] 30 (0,0)):=(ii.block T bD.1).trans HZ.blk;have t3:=P5 mO (i:=3) rfl;have yl:U.cell? ⟨gl,i,none⟩=some (.int .i64 v):=(ii.cell (p:=⟨gl,i,none⟩) (PQ qV bD.2)).trans bp4.out;have DD:=P5 jB (i:=0) rfl;have DE:=P5 jB (i:=1) rfl;have DF:=P5 jB (i:=2) rfl;have DG:=P5 jB (i:=3) rfl;have DH:=P5 jB (i:=4) rfl;obtain ⟨ts,e1,hown⟩:=HZ.made;have dg:((Pg k (Pq c (r::R'))).take i).zip ts=((Pg k (Pq c (r::R'))).take i).zip ts:=rfl;generalize iT:((Pg k (Pq c (r::R'))).take i).zip ts=done at hown dg;obtain ⟨ca',cc',sU⟩:=Own.len hown;injection sU with DI ug DJ;subst DI ug DJ;have jn:Hid ((RY f).C U.drew (RL No w5.heap.size U.drew (.slice ca done.length cc)) (ZD ([],v) (.int .i64 xa) (.int .i64 xb) (.slice jM jN jO) (.slice jP jQ jR) (.slice jS jT jU)) (([],v),t)):=by
   refine ⟨_,_,_,_,_,rfl,by show 0<_;decide,PL.below (w:=U) (w':=U.drew) (S:=λy=>w6.heap.size<y/\y<U.heap.size) (λ_ _=>rfl) (λy hy=> .inr ⟨by have:=HX.out;have:=bD.out;omega,hy.2,λe=>by have:=(hown.lt y e).2;have:=HX.out;omega⟩) f _ _ (HX.2.2 t kZ)⟩
  have DK:Hid (done.length<=100000):=by
   show _<=_;rw [<-iT,Yi,RW];omega
  have uh:=P4 hown;have DL:=P4 bD.2;have H7:∀W':World,(∀y,y<U.heap.size->(Value.slice ca done.length cc).ownBlock≠some y->W'.heap[y]? =U.heap[y]?)->(W'.cell? ⟨T,3,none⟩=some (.slice ca done.length cc)/\W'.cell? ⟨gl,i,none⟩=some (.int .i64 v))/\W'.cell? ⟨w6.heap.size,0,none⟩=some (.int .i64 xa)/\W'.cell? ⟨w6.heap.size,1,none⟩=some (.int .i64 xb)/\W'.cell? ⟨w6.heap.size,2,none⟩=some (.slice jM jN jO)/\W'.cell? ⟨w6.heap.size,3,none⟩=some (.slice jP jQ jR)/\W'.cell? ⟨w6.heap.size,4,none⟩=some (.slice jS jT jU):=λW' vY=>by
   have am:∀y,y<w5.heap.size\/wr.heap.size<=y->(Value.slice ca done.length cc).ownBlock≠some y:=λy hy e=>by have:=hown.lt y e;omega
   have yZ:=vY T (PV mO) (am T (.inl (by have:=bz.out;omega)));have bf3:=vY gl (PQ qV (by have:=HX.out;have:=bD.out;omega)) (am gl (.inl qV));have o8:=vY w6.heap.size HX.1 (am _ (.inr HX.2.1));exact ⟨⟨(Ut (a:=⟨T,3,none⟩) yZ).trans t3,(Ut (a:=⟨gl,i,none⟩) bf3).trans yl⟩,(Ut (a:=⟨w6.heap.size,0,none⟩) o8).trans DD,(Ut (a:=⟨w6.heap.size,1,none⟩) o8).trans DE,(Ut (a:=⟨w6.heap.size,2,none⟩) o8).trans DF,(Ut (a:=⟨w6.heap.size,3,none⟩) o8).trans DG,(Ut (a:=⟨w6.heap.size,4,none⟩) o8).trans DH⟩
  obtain ⟨⟨y0,y1⟩,y2,y3,y4,y5,y6⟩:=H7 U (λ_ _ _=>rfl);have DM:=P4 mO;have z8:Hid (T<U.heap.size/\(Value.slice ca done.length cc).ownBlock≠some T):=⟨PV mO,λe=>by have:=hown.lt T e;have:=bz.out;omega⟩;have n0:T<U.heap.size:=PV mO;have ba5:¬T=U.heap.size:=by omega
  have DN:¬U.heap.size=T:=by omega
  have DO:w6.heap.size<U.heap.size:=HX.1;have G6:¬w6.heap.size=U.heap.size:=by omega
  have bb7:gl<U.heap.size:=PQ qV (by have:=HX.out;have:=bD.out;omega);have bh6:¬gl=U.heap.size:=by omega
  clear hown dg kZ H7 mO t3 yl DD DE DF DG DH jB
  go_upto_region 21 with fail
  go_region_law ((refine Lo (E:=RY f) (w1:=wr) (w2:=U.drew) (v:= .slice ca done.length cc) (cs:=ZD ([],v) (.int .i64 xa) (.int .i64 xb) (.slice jM jN jO) (.slice jP jQ jR) (.slice jS jT jU)) (p:=(([],v),t)) (cap:=1) (Tryz.ty27 f) (by rfl) _ _ (by rfl) (by rfl) uh.out No.lt DL.out nK.drew U.heap.size (by rfl) (by rfl) jn.out (by have:=DK.out;omega) ?_;intro g9 cC w9 O9 DP ui;have qW:=(ui.2 T z8.1 z8.2).trans DM.out;have t9:=P5 qW (i:=3) rfl;have z9:=Pp (o:=3) qW))
  all_goals
   have ze:Hid (Cz f (λx m=>Q4 k fs f m (QJ k (r::R') c x) (S2 ak c (O' k x.1).2.2)) (Pg k (Pq c (r::R'))) n T (.slice ad2 pl cap2) w5 (i+1) m' (.slice (some ⟨g9,0,none⟩) (done.length+1) cC) (w9.setCell ⟨T,3,none⟩ (.slice (some ⟨g9,0,none⟩) (done.length+1) cC))):=by
    have zg:Kx T w5 w9:=by
     have h1:=HZ.keep;have h2:=ui.1;exact ⟨h2.os.trans h1.os,h2.tape.trans h1.tape,h2.output.trans h1.output,PZ h1.size h2.size,λy hy am=>(h2.block y hy).trans (h1.block y hy am)⟩
    refine ⟨zg.setCell 3 _,Q5 qW,⟨ts++[t],?_,?_⟩,?_⟩
    ·rw [fy.out.1,ZQ _ ([],v) _ _ _ e1];dsimp only;rw [fy.out.2,HRS.out.1]
     rfl
    ·rw [fy.out.1,EU _ _ _ _ (Nq _ _ _ _ e1).symm,iT];exact O9.keep (by have:=bz.out;omega) (λh=>h.elim) ((Kx.refl T w9).setCell 3 _) No.lt (PZ zg.size (P6 _))
    have h1:=NN k fs f m _ _ _ HRS.1;have h2:=HZ.cnt;dsimp only at h1;exact ⟨by omega,HRS.2⟩
   clear O9 DP ui qW;go_wp2;exact ⟨⟨i+1,m',some ⟨g9,0,none⟩,done.length+1,cC,ag,by go_num,rfl,ze.out⟩,by simp [intOf];omega⟩
 obtain rfl:i=L.length:=by omega
 have CR:=pT.out wr hkx;have aX:=HZ.cnt;have CT:∀w6 sv,Below wr.heap.size wr w6->Pi Qc 60 wr.heap.size S w6 sv (RA (r::R') c)->_:=λw6 sv hb hO=>nY.out wr w6 w6 m _ sv hkx hb hO (Pb _ _) aX.1 aX.2 nL.out;have bD:Hid (T<wr.heap.size/\w5.heap.size<=wr.heap.size):=⟨by have:=bz.out;have:=hkx.size;omega,hkx.size⟩;have vE:Hid _:=p4;clear p2 p3 p4 aX
 go_upto_region 38 with (first
  | (go_at_call 45;(with_reducible refine Pe CR ?_);rintro e' dC ⟨sv,rfl,hb10,O10⟩;have kR:=CT dC sv hb10 O10))
 clear CR CT O10
 go_upto_region 39 with (first
  | (go_at_call 23;(with_reducible refine Pe kR ?_);rintro e' w11 o9;obtain ⟨hb11,xa,xb,jM,jN,jO,jP,jQ,jR,jS,jT,jU,lv,rfl,od⟩:=o9.flat))
 have dy:Below wr.heap.size wr w11:=hb10.trans (hb11.mono hb10.size);have gB:w11.heap[T]? =some (.cells #[.int .i64 3,.int .i64 0,.slice ad2 pl cap2,.slice ca cl cc,.slice none 0 0] 30 (0,0)):=(dy.block T bD.1).trans HZ.blk;have t4:=P5 gB (i:=4) rfl;have z4:=Pp (o:=4) gB;have n0:T<w11.heap.size:=PV gB;have DN:¬T=w11.heap.size:=by omega
 have DO:¬T=w11.heap.size+1:=by omega
 have zh:Hid (Below dC.heap.size dC w11/\wr.heap.size<=dC.heap.size):=⟨hb11,hb10.size⟩;clear hb11 hb10 kR o9
 go_upto_region 40 with fail
 obtain ⟨A,hA,og,zi,zj,qX,qY⟩:=qh0 (o:= .cells #[.int .i64 xa,.int .i64 xb,.slice jM jN jO,.slice jP jQ jR,.slice jS jT jU] 30) gB;rw [<-hA];have de:A.heap[w.heap.size]? =some (.cells #[.int .i64 0,.int .i64 0,.slice none 0 0,.slice none 0 0,.slice none 0 0] 30 (0,0)):=(qX _ (by have:=bD.out;have:=bz.out;omega) (by have:=bz.out;omega)).trans ((dy.block _ (by have:=bD.out;have:=bz.out;omega)).trans (kt.out wr HZ.keep));have t0:=P5 og (i:=0) rfl;have t1:=P5 og (i:=1) rfl;have t2:=P5 og (i:=2) rfl;have t3:=P5 og (i:=3) rfl;have t4:=P5 og (i:=4) rfl;have s0:=P5 de (i:=0) rfl;have s1:=P5 de (i:=1) rfl;have s2:=P5 de (i:=2) rfl;have s3:=P5 de (i:=3) rfl;have s4:=P5 de (i:=4) rfl;have z0:=Pp (o:=0) de;have z1:=Pp (o:=1) de;have z2:=Pp (o:=2) de;have z3:=Pp (o:=3) de;have H8:=Pp (o:=4) de;obtain ⟨V,hV,eG,j5,gZ,ku⟩:=Ud de (.int .i64 3) (.int .i64 0) (.slice ad2 pl cap2) (.slice ca cl cc) (.slice (some ⟨w11.heap.size+1,0,none⟩) 1 1);have u0:=P5 eG (i:=0) rfl;have u1:=P5 eG (i:=1) rfl;have u2:=P5 eG (i:=2) rfl;have u3:=P5 eG (i:=3) rfl;have u4:=P5 eG (i:=4) rfl;have bP:Hid (Uc k fs (f+1) n (r::R') ak w (.returned (.tuple #[.agg #[.int .i64 3,.int .i64 0,.slice ad2 pl cap2,.slice ca cl cc,.slice (some ⟨w11.heap.size+1,0,none⟩) 1 1],.int .i64 lv])) V):=by
  obtain ⟨ts,e1,hown⟩:=HZ.made;obtain ⟨m1,m2,m3,m4,m5⟩:=bz.out;have qZ:(Pg k (Pq c (r::R'))).take L.length=Pg k (Pq c (r::R')):=Xi (by rw [iW.out];simp);rw [qZ] at e1 hown;have fX:Below w.heap.size w A:=by
   have h1:=p1.trans (dy.mono p1.size);exact ⟨qY.1.trans h1.os,qY.2.1.trans h1.tape,qY.2.2.trans h1.output,by rw [zj];have:=h1.size;omega,λy hy=>(qX y (by have:=h1.size;omega) (by omega)).trans (h1.block y hy)⟩
  refine ⟨Zx fX j5 gZ ku,?_⟩;by_cases jz:lv<0
  ·obtain ⟨eD,mH⟩:=od.1 jz;subst eD;refine .inl ⟨?_,_,_,_,_,_,_,_,_,_,_,_,rfl⟩;rw [jj.out jk.out,e1,Sw,mH]
   rfl
  obtain ⟨t,m',ig,uf,nZ,kZ⟩:=od.2 (by omega);subst nZ;refine .inr ⟨(((3,0,ak.getD c []),(Pg k (Pq c (r::R'))).zip ts,[t]):(Int×Nat×List Nat)×List (Cs×Tr f)×List (Tr f)),m',?_,uf,_,_,_,_,_,_,_,_,_,_,_,rfl,?_⟩
  ·rw [jj.out jk.out,e1,Sw,ig]
   rfl
  have ez:ak.getD c []=ak[c]:=by rw [UU,PR gY];rfl
  rw [ez];refine Fh (B:=w5.heap.size) (wr:=wr) (w11:=w11) m2 (by omega) bD.out.2 vE.out hown dy (PL.below (OZ.refl _ _) (λy hy=>⟨by have:=zh.out;omega,hy.2⟩) f _ _ kZ) (by rw [j5,zj];exact P6 _) (λy h1 h2 h3=>(gZ y h3).trans (qX y h1 h2)) ?_;rw [gZ _ (by have:=bD.out;have:=dy.size;omega)];exact zi
 clear hA zi qX qY j5 gZ ku gB zh;go_wp2;rw [<-hV];refine Qv (v:= .tuple #[.agg #[.int .i64 3,.int .i64 0,.slice ad2 pl cap2,.slice ca cl cc,.slice (some ⟨w11.heap.size+1,0,none⟩) 1 1],.int .i64 lv]) (by simp [results,Tryz.results23,go_sem,u0,u1,u2,u3,u4]) rfl ?_;exact bP.out
section
variable {w:World}{B:Nat}{v:Value}
def Uh:Pt:=⟨1,((-9,[],0),[])⟩
def WJ (w:World)(g o:Nat)(cs:List Value):Prop:=∀c (h:c<cs.length),w.cell? ⟨g,o+c,none⟩=some cs[c]
theorem WJ.on {w':World}{g o:Nat}{cs:List Value}(h:WJ w g o cs)(hk:w'.heap[g]? =w.heap[g]?):WJ w' g o cs:=λc hc=>(Qm hk _).trans (h c hc)
def Tw (w:World):Nat->Value->List Pt->List Nat->Prop
 | 0,_,_,_=>False
 | d+1,v,ps,bs=>∃(g cap:Nat) (cur:Array Value) (aC:List (List Nat)),v= .slice (some ⟨g,0,none⟩) ps.length cap/\ps.length+2<=cap/\w.heap[g]? =some (.cells cur 50 (0,0))/\cur.size=cap*4/\bs=g::aC.flatten/\aC.length=ps.length/\(∀j,j<2->WJ w g ((ps.length+j)*4) (Ru Uh none 0))/\∀i (h:i<ps.length) (h':i<aC.length),∃ad kc,WJ w g (i*4) (Ru ps[i] ad kc)/\ps[i].name.length<140737488355328/\ps[i].kids.length<140737488355328/\Tw w d (.slice ad ps[i].kids.length kc) ps[i].kids aC[i]
theorem Tw.on {w w':World}:∀(d:Nat) (v:Value) (ps:List Pt) (bs:List Nat),Tw w d v ps bs->(∀b∈bs,w'.heap[b]? =w.heap[b]?)->Tw w' d v ps bs
 | 0,_,_,_,h,_=>h.elim
 | d+1,v,ps,bs,⟨g,cap,cur,aC,h1,h2,h3,h4,h5,h6,h7,h8⟩,hk=>by
  have kg:=hk g (by rw [h5];simp);refine ⟨g,cap,cur,aC,h1,h2,kg.trans h3,h4,h5,h6,λj hj=>(h7 j hj).on kg,λi hi aB=> ?_⟩;obtain ⟨ad,kc,q1,q2,q3,q4⟩:=h8 i hi aB;exact ⟨ad,kc,q1.on kg,q2,q3,Tw.on d _ _ _ q4 λb hb=>hk b (by rw [h5];exact RI _ (RF.2 ⟨_,Px aB,hb⟩))⟩
theorem Tw.pats {w:World}{S:Nat->Prop}:∀(d:Nat) (v:Value) (ps:List Pt) (bs:List Nat),Tw w d v ps bs->(∀b∈bs,S b)->Pl w S v ps
 | 0,_,_,_,h,_=>h.elim
 | d+1,v,ps,bs,⟨g,cap,cur,aC,h1,h2,h3,h4,h5,h6,h7,h8⟩,hk=>by
  subst h1;by_cases h0:ps=[]
  ·exact .inl ⟨h0,_,cap,by rw [h0];rfl⟩
  refine .inr ⟨g,0,cap,rfl,h0,by omega,λi hi=> ?_⟩;obtain ⟨ad,kc,q1,q2,q3,q4⟩:=h8 i hi (by omega);have hp:=Tw.pats d _ _ _ q4 λb hb=>hk b (by rw [h5];exact RI _ (RF.2 ⟨_,Px (by omega),hb⟩));refine RN.mk (ad:=ad) (cap:=kc) (hk g (by rw [h5];simp)) ?_ ?_ ?_ q2 q3 ?_ hp
  ·have:=q1 0 (by simp [Ru]);simpa [Ru] using this
  ·have:=q1 1 (by simp [Ru]);simpa [Ru] using this
  ·have:=q1 2 (by simp [Ru]);simpa [Ru] using this
  have:=q1 3 (by simp [Ru]);simpa [Ru] using this
def Vv (d:Nat):Elt (Pt×List Nat×Bool) where
 k:=4
 C w S cs x:=∃ad cap,cs=Ru x.1 ad cap/\x.1.name.length<140737488355328/\x.1.kids.length<140737488355328/\((x.2.2=true/\Tw w d (.slice ad x.1.kids.length cap) x.1.kids x.2.1/\∀b∈x.2.1,S b)\/(x.2.2=false/\ad=none/\cap=0))
 len:=by rintro _ _ _ _ ⟨_,_,rfl,_⟩;rfl
 one:=by
  rintro _ _ _ _ ⟨_,_,rfl,_⟩ u hu;simp only [Ru,Qa,Sf,Si] at hu;rcases hu with rfl | rfl | rfl | rfl<;>rfl
 on:=by
  rintro w w' S S' cs x hk hS ⟨ad,cap,h1,h2,h3,h4⟩;refine ⟨ad,cap,h1,h2,h3,?_⟩;rcases h4 with ⟨h4,h5,h6⟩ | h4
  ·exact .inl ⟨h4,Tw.on d _ _ _ h5 λb hb=>hk b (h6 b hb),λb hb=>hS b (h6 b hb)⟩
  exact .inr h4
theorem Tryz.ty31w (d:Nat):Ty 31 50 (Vv d).k 56:=Tryz.ty31
theorem Xw {α:Type}{E:Elt α}{e:Nat}{S:Nat->Prop}{l:List α}(h:Pi E e B S w v l)(am:l≠[]):∃g cap cur,v= .slice (some ⟨g,0,none⟩) l.length cap/\w.heap[g]? =some (.cells cur e (0,0))/\l.length<=cap/\cur.size=cap*E.k/\B<=g:=by
 obtain ⟨bX,_,_,⟨_,h3⟩ | ⟨g,cap,cur,h1,h2,h3,h4,_,h5,_⟩⟩:=Own.row h
 ·exact absurd (Up.1 h3) am
 exact ⟨g,cap,cur,h1,h3,h4,h5,h2⟩
def TZ:Pt×List Nat×Bool:=(Uh,[],false)
theorem Ku {d:Nat}{l:List (Pt×List Nat×Bool)}(h:Pi (Vv d) 50 B (λ_=>False) w v (l++[TZ,TZ]))(ht:∀x∈l,x.2.2=true)(hnd:(l.map (·.2.1)).flatten.Nodup):∃g cap bs,v= .slice (some ⟨g,0,none⟩) (l.length+2) cap/\l.length+2<=cap/\Tw w (d+1) (.slice (some ⟨g,0,none⟩) l.length cap) (l.map (·.1)) bs/\bs.Nodup/\∀b∈bs,B<=b/\b<w.heap.size:=by
 have aA:(l++[TZ,TZ]).length=l.length+2:=by simp
 obtain ⟨g,cap,cur,h1,h2,h3,h4,h5⟩:=Xw h (by simp);rw [aA] at h1 h3;have hr:=Own.rowE h;subst h1;rcases hr with ⟨e,_⟩ | ⟨g',o',cap',e,h6,h7,h8⟩
 ·simp at e
 injection e with e1 e2 e3;injection e1 with e1;injection e1 with e4 e5;subst e4 e5 e3;rw [aA] at h7;have bn:∀j (hj:j<(l++[TZ,TZ]).length),∃cs,(Vv d).C w (RL (λ_=>False) B w (.slice (some ⟨g,0,none⟩) (l.length+2) cap)) cs (l++[TZ,TZ])[j]/\WJ w g (j*4) cs:=λj hj=>by
  obtain ⟨_,cs,q1,q2⟩:=h8 j hj;refine ⟨cs,q1,λc hc=> ?_⟩;have hk:cs.length=4:=(Vv d).len q1;have:=q2 c (show c<4 by omega);rw [Rp] at this;rw [PR hc] at this;exact this
 have hg:=PV h2;have ba6:∀b,RL (λ_=>False) B w (.slice (some ⟨g,0,none⟩) (l.length+2) cap) b->B<=b/\b<w.heap.size/\b≠g:=λb hb=>by
  rcases hb with hb | ⟨a,b',c⟩
  ·exact hb.elim
  exact ⟨a,b',λe=>c (by rw [e];rfl)⟩
 have uz:∀i (hi:i<l.length),∃ad kc,WJ w g (i*4) (Ru l[i].1 ad kc)/\l[i].1.name.length<140737488355328/\l[i].1.kids.length<140737488355328/\Tw w d (.slice ad l[i].1.kids.length kc) l[i].1.kids l[i].2.1/\∀b∈l[i].2.1,B<=b/\b<w.heap.size/\b≠g:=λi hi=>by
  obtain ⟨cs,⟨ad,kc,q1,q2,q3,q4⟩,q5⟩:=bn i (by rw [aA];omega);rw [WO hi] at q1 q2 q3 q4;rcases q4 with ⟨_,q6,q7⟩ | ⟨q6,_⟩
  ·exact ⟨ad,kc,by rw [<-q1];exact q5,q2,q3,q6,λb hb=>ba6 b (q7 b hb)⟩
  rw [ht _ (Px hi)] at q6;cases q6
 refine ⟨g,cap,g::(l.map (·.2.1)).flatten,rfl,h7,⟨g,cap,cur,l.map (·.2.1),by rw [Qb],by rw [Qb];exact h7,h2,h4,rfl,by simp,λj hj=> ?_,λi hi aB=> ?_⟩,?_,?_⟩
 ·rw [Qb];obtain ⟨cs,⟨ad,kc,q1,q2,q3,q4⟩,q5⟩:=bn (l.length+j) (by rw [aA];omega);have he:(l++[TZ,TZ])[l.length+j]'(by rw [aA];omega)=TZ:=by
   rw [WN (by omega)];rcases (show j=0\/j=1 by omega) with rfl | rfl<;>simp
  rw [he] at q1 q4;rcases q4 with ⟨q6,_⟩ | ⟨_,rfl,rfl⟩
  ·cases q6
  rw [q1] at q5;exact q5
 ·rw [Qb] at hi;obtain ⟨ad,kc,q1,q2,q3,q4,_⟩:=uz i hi;simp only [R7];exact ⟨ad,kc,q1,q2,q3,q4⟩
 ·rw [U6];refine ⟨λhm=> ?_,hnd⟩;obtain ⟨b,hb,hm⟩:=RF.1 hm;obtain ⟨x,hx,rfl⟩:=PI.1 hb;obtain ⟨i,hi,rfl⟩:=RO hx;obtain ⟨_,_,_,_,_,_,q⟩:=uz i hi;exact (q g hm).2.2 rfl
 intro b hb;rcases Qa.1 hb with rfl | hb
 ·exact ⟨h5,hg⟩
 obtain ⟨b',aj,hm⟩:=RF.1 hb;obtain ⟨x,hx,rfl⟩:=PI.1 aj;obtain ⟨i,hi,rfl⟩:=RO hx;obtain ⟨_,_,_,_,_,_,q⟩:=uz i hi;exact ⟨(q b hm).1,(q b hm).2.1⟩
end
