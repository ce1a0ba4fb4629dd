import Derived.Test.YtpdmkhnonbbhnaaGreatMfx
import Derived.Test.YtpdmkhnonbbhnaaGreatMix
import Derived.Great.Frames
namespace Go.Proofs.YtpdmkhnonbbhnaaGreat
open Go.RowKit
section
theorem Fx (a:Act){i j:Nat}(h:i≠j)(x y:Value):(a.put (some i) x).put (some j) y=(a.put (some j) y).put (some i) x:=by
 simp only [Act.put];rw [Dg _ _ h]
theorem ZL (a:Act)(d:Nat)(x:Value):(a.put (some d) x).tmps.size=a.tmps.size:=by simp [Act.put]
theorem WM {w w':World}{base e k:Nat}{v:Value}{n:Nat}{xs:List Value}(h:w.ownsRow base e k v n xs)(hb:Below w.heap.size w w'):w'.ownsRow base e k v n xs:=by
 obtain ⟨h1,h2⟩:=h;refine ⟨h1,?_⟩;rcases h2 with h2 | ⟨g,cap,cur,rfl,h3,h4,h5⟩
 ·exact .inl h2
 exact .inr ⟨g,cap,cur,rfl,h3,(hb.block g (PV h4)).trans h4,h5⟩
section
variable {al:Array Oper}{Q:Exit->Act->World->Prop}{W:World}{t e b:Nat}{ys:List Value}{k0 k1:Value}{c24 d25 c30 d31 d32 d33 d5:Nat}{o7 rN rO rP rQ:Oper}
structure Twi (al:Array Oper)(Q:Exit->Act->World->Prop)(t e b:Nat)(k0 k1:Value)(c24 d25 c30 d31 d32 d33 d5:Nat)(o7 rN rO rP rQ:Oper):Prop where
 T:Ty t e 1 b
 h7:al[7]? =some o7
 h13:al[13]? =some rN
 h14:al[14]? =some rO
 h15:al[15]? =some rP
 h16:al[16]? =some rQ
 q7:∀(N:Nat) (a:Act) (w:World) (K:Act->World->Prop),N<=1000000->a.eval (.tmp c24)= .int .i64 (N:Int)->(∀c:Array Value,c.size=N->K (a.put (some d25) (.slice (some ⟨w.heap.size,0,none⟩) 0 N)) (w.alloc (.cells c e)))->if Region.wanted o7 (yielded al a.tmps)=true then Oper.wp Tryz.prog o7 a w K Q else K (a.put o7.dst undef) w
 g13:rN.guard=none
 p13:rN.op= .call {callee:= .builtin .append,args:= #[.tmp d25,.tmp c30],argTypes:= #[t,t]}
 d13:rN.dst=some d31
 q14:∀(a:Act) (w:World) (K:Act->World->Prop),K (a.put (some d32) (.slice (some ⟨w.heap.size,0,none⟩) 2 2)) (w.alloc (.cells #[k0,k1] e))->if Region.wanted rO (yielded al a.tmps)=true then Oper.wp Tryz.prog rO a w K Q else K (a.put rO.dst undef) w
 g15:rP.guard=none
 p15:rP.op= .call {callee:= .builtin .append,args:= #[.tmp d31,.tmp d32],argTypes:= #[t,t]}
 d15:rP.dst=some d33
 q16:∀(a:Act) (w:World) (K:Act->World->Prop),K (a.put (some d5) (a.eval (.tmp d33))) w->if Region.wanted rQ (yielded al a.tmps)=true then Oper.wp Tryz.prog rQ a w K Q else K (a.put rQ.dst undef) w
 r1:Region.ready .any al (QV 8063 17)=[7,14]
 r2:Region.ready .any al (QV 8191 17)=[13,14]
 r3:Region.ready .any al (QV 16383 17)=[14]
 r4:Region.ready .any al (QV 24447 17)=[7]
 r5:Region.ready .any al (QV 24575 17)=[13]
 r6:Region.ready .any al (QV 32767 17)=[15]
 r7:Region.ready .any al (QV 65535 17)=[16]
 r8:Region.ready .any al (QV 131071 17)=[]
 ne: [c24,d25,c30,d31,d32,d33,d5].Nodup
 k01:k0.oneCell'=true/\k1.oneCell'=true
def Vm (Q:Exit->Act->World->Prop)(W:World)(e:Nat)(ys:List Value)(k0 k1:Value)(a:Act)(d25 d31 d32 d33 d5:Nat):Prop:=∀(qm x31 Ga:Value) (cb cc:Nat) (W1:World),Below W.heap.size W W1->W1.ownsRow W.heap.size e 1 (.slice (some ⟨cb,0,none⟩) (ys.length+2) cc) (ys.length+2) (ys++[k0,k1])->Q .normal (((((a.put (some d25) qm).put (some d31) x31).put (some d32) Ga).put (some d33) (.slice (some ⟨cb,0,none⟩) (ys.length+2) cc)).put (some d5) (.slice (some ⟨cb,0,none⟩) (ys.length+2) cc)) W1
theorem Twi.last (D:Twi al Q t e b k0 k1 c24 d25 c30 d31 d32 d33 d5 o7 rN rO rP rQ){a a0:Act}{w:World}{qm x31:Value}{g:Nat}(ha:a=((a0.put (some d25) qm).put (some d31) x31).put (some d32) (.slice (some ⟨g,0,none⟩) 2 2))(hsz:d31<a0.tmps.size/\d32<a0.tmps.size/\d33<a0.tmps.size)(hb:Below W.heap.size W w)(ho:w.ownsRow W.heap.size e 1 x31 ys.length ys)(hg:w.heap[g]? =some (.cells #[k0,k1] e (0,0)))(_hne:x31.ownBlock≠some g)(hn:ys.length<=100000)(eW:Vm Q W e ys k0 k1 a0 d25 d31 d32 d33 d5):
  Sz Tryz.prog .any al Q (λw'=>Below W.heap.size W w') 16 2 (QV 32767 17) a w:=by
 obtain ⟨Cm,Cn,Co⟩:=hsz;have py:=D.ne;simp only [U6,Qa,Sf,Si,not_or,OS,Vr,MA] at py;obtain ⟨⟨_,_,_,_,_,_⟩,⟨_,rR,kP,rS,wW⟩,⟨_,_,_,_⟩,⟨kQ,rT,wX⟩,⟨rU,wY⟩,wZ⟩:=py;refine Y4 (m':=65535) D.r6 D.h15 (by kernel_rfl) λK hK=> ?_;refine Jt (ys:=[k0,k1]) D.T D.g15 _ _ D.p15 (v:=x31) (by rw [ha,Act.eval_put_ne _ _ _ _ (Ne.symm kQ),Act.eval_put_same _ _ _ (by rw [ZL];exact Cm)]) ho (by rw [ha,Act.eval_put_same _ _ _ (by rw [ZL,ZL];exact Cn)];rfl) (.inr ⟨g,0,rfl,λj hj=> ?_⟩) (λu hu=> ?_) (by simp;omega) (by have:=hb.size;omega) λv' w' h1 h2 h3=> ?_
 ·have hj:j<2:=by simpa using hj
  rw [Rp];rcases (show j=0\/j=1 by omega) with rfl | rfl
  ·exact P0 hg rfl
  exact P0 hg rfl
 ·simp only [Qa,Sf,Si] at hu;rcases hu with rfl | rfl
  ·exact D.k01.1
  exact D.k01.2
 have aj:Below W.heap.size W w':=hb.grown h2 hb.size λy hy=>(ho.lt y hy).1;obtain ⟨cb,cc,hv⟩:∃cb cc,v'= .slice (some ⟨cb,0,none⟩) (ys.length+2) cc:=by
  rcases h1.2 with ⟨_,h⟩ | ⟨cb,cc,_,h,_⟩
  ·simp at h
  exact ⟨cb,cc,h⟩
 subst hv;rw [D.d15];refine hK.out _ _ (λ_=>aj) ?_;clear hK K;refine Y4 (m':=131071) D.r7 D.h16 (by kernel_rfl) λK hK=>D.q16 _ _ _ ?_;refine hK.out _ _ (λh=>absurd rfl h) ?_;refine Yn D.r8 ?_ _;rw [Act.eval_put_same _ _ _ (by rw [ha,ZL,ZL,ZL];exact Co),ha];exact eW _ _ _ cb cc w' aj h1
theorem Twi.mid (D:Twi al Q t e b k0 k1 c24 d25 c30 d31 d32 d33 d5 o7 rN rO rP rQ){a a0:Act}{w:World}{ad:Option Addr}{cap:Nat}{qm:Value}{g:Nat}(ha:a=(a0.put (some d25) qm).put (some d32) (.slice (some ⟨g,0,none⟩) 2 2))(hsz:d25<a0.tmps.size/\d31<a0.tmps.size/\d32<a0.tmps.size/\d33<a0.tmps.size)(hb:Below W.heap.size W w)(ho:w.ownsRow W.heap.size e 1 qm 0 [])(x7:a0.eval (.tmp c30)= .slice ad ys.length cap)(gd:ys=[]\/∃g q,ad=some ⟨g,q,none⟩/\g<W.heap.size/\∀j (h:j<ys.length),W.cell? ⟨g,q+j,none⟩=some ys[j])(h1:∀u∈ys,u.oneCell'=true)(hg:w.heap[g]? =some (.cells #[k0,k1] e (0,0)))(am:qm.ownBlock≠some g)(hn:ys.length<=100000)(eW:Vm Q W e ys k0 k1 a0 d25 d31 d32 d33 d5):
  Sz Tryz.prog .any al Q (λw'=>Below W.heap.size W w') 16 3 (QV 24575 17) a w:=by
 obtain ⟨bq4,Cm,Cn,Co⟩:=hsz;have py:=D.ne;simp only [U6,Qa,Sf,Si,not_or,OS,Vr,MA] at py;obtain ⟨⟨_,_,_,_,_,_⟩,⟨n8,rR,kP,rS,wW⟩,⟨bh7,rV,_,_⟩,⟨kQ,rT,wX⟩,⟨rU,wY⟩,wZ⟩:=py;refine Y4 (m':=32767) D.r5 D.h13 (by kernel_rfl) λK hK=> ?_;refine Jt (ys:=ys) D.T D.g13 _ _ D.p13 (v:=qm) (by rw [ha,Act.eval_put_ne _ _ _ _ (Ne.symm kP),Act.eval_put_same _ _ _ bq4]) ho (by rw [ha,Act.eval_put_ne _ _ _ _ (Ne.symm rV),Act.eval_put_ne _ _ _ _ n8];exact x7) ?_ h1 (by omega) (by have:=hb.size;omega) λv' w' x9 k2 k3=> ?_
 ·rcases gd with h | ⟨g,q,h2,h3,h4⟩
  ·exact .inl h
  exact .inr ⟨g,q,h2,λj hj=>(Qm (hb.block g h3) _).trans (h4 j hj)⟩
 have dh:=PV hg;rw [D.d13];have aj:Below W.heap.size W w':=hb.grown k2 hb.size λy hy=>(ho.lt y hy).1;refine hK.out _ _ (λ_=>aj) ?_;refine D.last (x31:=v') (by rw [ha,Fx _ (Ne.symm kQ)]) ⟨Cm,Cn,Co⟩ aj (by simpa using x9) ((k2.block g dh λh=>am h.symm).trans hg) ?_ hn eW;rcases k3 with k3 | ⟨g',k3,k4⟩
 ·rw [k3];exact am
 rw [k3];intro h;injection h with h;omega
theorem Twi.run (D:Twi al Q t e b k0 k1 c24 d25 c30 d31 d32 d33 d5 o7 rN rO rP rQ){a:Act}{w:World}{ad:Option Addr}{cap:Nat}(hsz:d25<a.tmps.size/\d31<a.tmps.size/\d32<a.tmps.size/\d33<a.tmps.size)(hb:Below W.heap.size W w)(Gb:a.eval (.tmp c24)= .int .i64 ((ys.length+2:Nat):Int))(x7:a.eval (.tmp c30)= .slice ad ys.length cap)(gd:ys=[]\/∃g q,ad=some ⟨g,q,none⟩/\g<W.heap.size/\∀j (h:j<ys.length),W.cell? ⟨g,q+j,none⟩=some ys[j])(h1:∀u∈ys,u.oneCell'=true)(hn:ys.length<=100000)(eW:Vm Q W e ys k0 k1 a d25 d31 d32 d33 d5):
  Sz Tryz.prog .any al Q (λw'=>Below W.heap.size W w') 16 5 (QV 8063 17) a w:=by
 have py:=D.ne;simp only [U6,Qa,Sf,Si,not_or,OS,Vr,MA] at py;obtain ⟨⟨ar7,ai3,ae5,bf2,_,_⟩,⟨n8,rR,kP,rS,wW⟩,⟨bh7,rV,_,_⟩,⟨kQ,rT,wX⟩,⟨rU,wY⟩,wZ⟩:=py;have hbs:=hb.size;refine ma0 (mi:=8191) (mj:=24447) D.r1 D.h7 D.h14 (by kernel_rfl) (by kernel_rfl) (λK hK=>D.q7 _ _ _ _ (by omega) Gb λc hc=> ?_) (λK hK=>D.q14 _ _ _ ?_)
 ·have tt:Below W.heap.size W (w.alloc (.cells c e)):=hb.alloc hbs _;have vF:=mb0 (e:=e) w W.heap.size hbs c _ hc (by omega);refine hK.out _ _ (λ_=>tt) ?_;clear hK K;refine ma0 (mi:=16383) (mj:=24575) D.r2 D.h13 D.h14 (by kernel_rfl) (by kernel_rfl) (λK hK=> ?_) (λK hK=>D.q14 _ _ _ ?_)
  ·refine Jt (ys:=ys) D.T D.g13 _ _ D.p13 (Act.eval_put_same _ _ _ hsz.1) vF (by rw [Act.eval_put_ne _ _ _ _ n8];exact x7) ?_ h1 (by omega) (by have:=tt.size;omega) λv' w' x9 k2 k3=> ?_
   ·rcases gd with h | ⟨g,q,h2,h3,h4⟩
    ·exact .inl h
    exact .inr ⟨g,q,h2,λj hj=>(Qm (tt.block g h3) _).trans (h4 j hj)⟩
   rw [D.d13];have aj:Below W.heap.size W w':=tt.grown k2 tt.size λy hy=>(vF.lt y hy).1;refine hK.out _ _ (λ_=>aj) ?_;clear hK K;refine Y4 (m':=32767) D.r3 D.h14 (by kernel_rfl) λK hK=>D.q14 _ _ _ ?_;have hb2:Below W.heap.size W (w'.alloc (.cells #[k0,k1] e)):=aj.alloc aj.size _;refine hK.out _ _ (λ_=>hb2) ?_;refine D.last (x31:=v') rfl ⟨hsz.2.1,hsz.2.2.1,hsz.2.2.2⟩ hb2 (WM (by simpa using x9) ((Pb _ _).alloc (P6 _) _)) (PF w' _) ?_ hn eW;intro h;have:=(x9.lt _ h).2;omega
  have hb2:Below W.heap.size W ((w.alloc (.cells c e)).alloc (.cells #[k0,k1] e)):=tt.alloc tt.size _;refine hK.out _ _ (λ_=>hb2) ?_;refine D.mid rfl hsz hb2 (WM vF ((Pb _ _).alloc (P6 _) _)) x7 gd h1 (PF _ _) ?_ hn eW;intro h;have:=(vF.lt _ h).2;omega
 have n9:Below W.heap.size W (w.alloc (.cells #[k0,k1] e)):=hb.alloc hbs _;refine hK.out _ _ (λ_=>n9) ?_;clear hK K;refine Y4 (m':=24575) D.r4 D.h7 (by kernel_rfl) λK hK=>D.q7 (ys.length+2) _ _ _ (by omega) (by rw [Act.eval_put_ne _ _ _ _ (Ne.symm bf2)];exact Gb) λc hc=> ?_;have hb2:Below W.heap.size W ((w.alloc (.cells #[k0,k1] e)).alloc (.cells c e)):=n9.alloc n9.size _;have vF:=mb0 (e:=e) (w.alloc (.cells #[k0,k1] e)) W.heap.size n9.size c _ hc (by omega);refine hK.out _ _ (λ_=>hb2) ?_;refine D.mid (g:=w.heap.size) (by rw [Fx _ (Ne.symm kP)]) hsz hb2 vF x7 gd h1 ((Qq _ _ _ (by simp)).trans (PF w _)) ?_ hn eW;intro h;injection h with h;have h:(w.alloc (.cells #[k0,k1] e)).heap.size=w.heap.size:=h;rw [Sb] at h;omega
end
end
section
variable {w w' W0 wr:World}{fs:List Pu}{lo base e k n:Nat}{xs:List Value}{ov:Value}
abbrev Fe:=Nat×Nat×Nat×Nat
def Rg (l:List Qg):List Value:=l.map λs=> .string ⟨s.toArray⟩
def QU (l:List Int):List Value:=l.map λx=> .int .i64 x
def Zy:List Value:=[.string ⟨#[98,101,104,105,110,100]⟩,.string ⟨#[105,116]⟩]
def ZK:List Value:=[.int .i64 77,.int .i64 78]
def Zo (f:Pu)(x:Fe):List Value:=[.slice (some ⟨x.1,0,none⟩) f.1.length x.2.1,.slice (some ⟨x.2.2.1,0,none⟩) f.2.length x.2.2.2]
def Sj (es:List Fe):List Nat:=es.flatMap λx=> [x.1,x.2.2.1]
def SL (fs:List Pu)(es:List Fe):List Value:=(fs.zip es).flatMap λp=>Zo p.1 p.2
theorem Lj:∀(fs:List Pu) (es:List Fe) (h:es.length<fs.length) (x:Fe),SL fs (es++[x])=SL fs es++Zo fs[es.length] x
 | [],_,h,_=>by simp at h
 | f::fs,[],_,x=>by simp [SL]
 | f::fs,e::es,h,x=>by
  have ih:=Lj fs es (by simpa using h) x;unfold SL at ih⊢;simp only [TY,ZG,Y5,T5,Rj,MT];rw [ih]
theorem CY:∀(fs:List Pu) (es:List Fe),es.length<=fs.length->(SL fs es).length=es.length*2
 | _,[],_=>by simp [SL]
 | [],_::_,h=>by simp at h
 | f::fs,e::es,h=>by
  have ih:=CY fs es (by simpa using h);unfold SL at ih⊢;simp only [ZG,Y5,QP,Rj,ih];simp [Zo];omega
theorem mf0:∀(fs:List Pu) (es:List Fe) (i:Nat) (h:i<es.length) (h':i<fs.length),(SL fs es)[i*2]? =some (.slice (some ⟨es[i].1,0,none⟩) fs[i].1.length es[i].2.1)/\(SL fs es)[i*2+1]? =some (.slice (some ⟨es[i].2.2.1,0,none⟩) fs[i].2.length es[i].2.2.2)
 | _,[],_,h,_=>by simp at h
 | [],_::_,_,_,h=>by simp at h
 | f::fs,e::es,0,_,_=>by
  unfold SL;simp [Zo]
 | f::fs,e::es,i+1,h,h'=>by
  have ih:=mf0 fs es i (by simpa using h) (by simpa using h');unfold SL at ih⊢;rw [ZG,Y5,show (i+1)*2=i*2+2 by omega,MT,MT];exact ih
theorem WA {es:List Fe}{y:Nat}:y∈Sj es↔∃i,∃h:i<es.length,y=es[i].1\/y=es[i].2.2.1:=by
 unfold Sj;simp only [V7,Qa,Sf,Si];constructor
 ·rintro ⟨x,hx,h⟩;obtain ⟨i,hi,rfl⟩:=RO hx;exact ⟨i,hi,h⟩
 rintro ⟨i,hi,h⟩;exact ⟨_,Px hi,h⟩
theorem MI (es:List Fe)(x:Fe):Sj (es++[x])=Sj es++[x.1,x.2.2.1]:=by
 unfold Sj;rw [WW];simp
structure Fl (lo:Nat)(fs:List Pu)(es:List Fe)(w:World):Prop where
 con:∀j (h:j<es.length) (h':j<fs.length),w.ownsRow lo 9 1 (.slice (some ⟨es[j].1,0,none⟩) (fs[j].1.length+2) es[j].2.1) (fs[j].1.length+2) (Rg fs[j].1++Zy)
 fld:∀j (h:j<es.length) (h':j<fs.length),w.ownsRow lo 3 1 (.slice (some ⟨es[j].2.2.1,0,none⟩) (fs[j].2.length+2) es[j].2.2.2) (fs[j].2.length+2) (QU fs[j].2++ZK)
 ap:(Sj es).Nodup
theorem ZS {g:Nat}{c:Nat}(h:w.ownsRow base e k (.slice (some ⟨g,0,none⟩) n c) n xs)(hk:w'.heap[g]? =w.heap[g]?):w'.ownsRow base e k (.slice (some ⟨g,0,none⟩) n c) n xs:=by
 obtain ⟨h1,h2⟩:=h;refine ⟨h1,?_⟩;rcases h2 with ⟨h2,_⟩ | ⟨g',cap,cur,h2,h3,h4,h5⟩
 ·cases h2
 obtain ⟨e1,_,_⟩:=RM h2;injection e1 with e1;injection e1 with e1;subst e1;exact .inr ⟨g,cap,cur,h2,h3,hk.trans h4,h5⟩
theorem UK {v:Value}(h:w.ownsRow base e k v n xs)(hl:lo<=base):w.ownsRow lo e k v n xs:=by
 obtain ⟨h1,h2⟩:=h;refine ⟨h1,?_⟩;rcases h2 with h2 | ⟨g,cap,cur,h2,h3,h4⟩
 ·exact .inl h2
 exact .inr ⟨g,cap,cur,h2,PZ hl h3,h4⟩
theorem Fl.lt {es:List Fe}(h:Fl lo fs es w)(hl:es.length<=fs.length):∀y∈Sj es,lo<=y/\y<w.heap.size:=λy hy=>by
 obtain ⟨i,hi,e | e⟩:=WA.1 hy
 ·exact (h.con i hi (by omega)).lt y (by rw [e];rfl)
 exact (h.fld i hi (by omega)).lt y (by rw [e];rfl)
theorem Fl.on {es:List Fe}(h:Fl lo fs es w)(hk:∀y∈Sj es,w'.heap[y]? =w.heap[y]?):Fl lo fs es w':=⟨λj hj aJ=>ZS (h.con j hj aJ) (hk _ (WA.2 ⟨j,hj,.inl rfl⟩)),λj hj aJ=>ZS (h.fld j hj aJ) (hk _ (WA.2 ⟨j,hj,.inr rfl⟩)),h.ap⟩
structure Ly (W0:World)(fs:List Pu)(i:Nat)(ov:Value)(es:List Fe)(wr:World):Prop where
 below:Below W0.heap.size W0 wr
 len:es.length=i
 le:i<=fs.length
 out:wr.ownsRow W0.heap.size 48 2 ov i (SL fs es)
 fl:Fl W0.heap.size fs es wr
 apo:∀y∈Sj es,ov.ownBlock≠some y
theorem Ly.put {i:Nat}{es:List Fe}{W1 W2 w7:World}(h:Ly W0 fs i ov es wr)(hi:i<fs.length){cb cc fb fc:Nat}(hb1:Below wr.heap.size wr W1)(h1:W1.ownsRow wr.heap.size 9 1 (.slice (some ⟨cb,0,none⟩) (fs[i].1.length+2) cc) (fs[i].1.length+2) (Rg fs[i].1++Zy))(hb2:Below W1.heap.size W1 W2)(h2:W2.ownsRow W1.heap.size 3 1 (.slice (some ⟨fb,0,none⟩) (fs[i].2.length+2) fc) (fs[i].2.length+2) (QU fs[i].2++ZK))
  {g cap:Nat}{o:Obj}(ho:w7.ownsRow W0.heap.size 48 2 (.slice (some ⟨g,0,none⟩) (i+1) cap) (i+1) (SL fs es++Zo fs[i] (cb,cc,fb,fc))) (hg:(W2.alloc o).grownBy w7 ov.ownBlock) (bL:ov.ownBlock=some g\/g=W2.heap.size+1):Ly W0 fs (i+1) (.slice (some ⟨g,0,none⟩) (i+1) cap) (es++[(cb,cc,fb,fc)]) w7:=by
 have fk:es.length<=fs.length:=by rw [h.len];exact h.le
 have hlt:=h.fl.lt fk;have s0:=h.below.size;have s1:=hb1.size;have s2:=hb2.size;have s7:=hg.size;rw [Sb] at s7;have cP:=h1.lt cb rfl;have Gf:=h2.lt fb rfl;have pz:∀y,ov.ownBlock=some y->y<wr.heap.size:=λy hy=>(h.out.lt y hy).2;have aE:∀y,y<W2.heap.size->ov.ownBlock≠some y->w7.heap[y]? =W2.heap[y]? :=λy hy am=>(hg.block y (by rw [Sb];omega) λe=>am e.symm).trans (Qq _ _ _ hy);have jc:w7.ownsRow W0.heap.size 9 1 (.slice (some ⟨cb,0,none⟩) (fs[i].1.length+2) cc) (fs[i].1.length+2) (Rg fs[i].1++Zy):=ZS (UK h1 s0) ((aE cb (by omega) λe=>by have:=pz cb e;omega).trans (hb2.block cb cP.2));have bu4:w7.ownsRow W0.heap.size 3 1 (.slice (some ⟨fb,0,none⟩) (fs[i].2.length+2) fc) (fs[i].2.length+2) (QU fs[i].2++ZK):=ZS (UK h2 (by omega)) (aE fb (by omega) λe=>by have:=pz fb e;omega);have k7:Fl W0.heap.size fs es w7:=h.fl.on λy hy=>((aE y (by have:=hlt y hy;omega) (h.apo y hy)).trans (hb2.block y (by have:=hlt y hy;omega))).trans (hb1.block y (hlt y hy).2);refine ⟨⟨hg.os.trans (hb2.os.trans (hb1.os.trans h.below.os)),hg.tape.trans (hb2.tape.trans (hb1.tape.trans h.below.tape)),hg.output.trans (hb2.output.trans (hb1.output.trans h.below.output)),by omega,λy hy=> ?_⟩,by rw [QP,h.len];rfl,hi,?_,⟨λj hj aJ=> ?_,λj hj aJ=> ?_,?_⟩,λy hy e=> ?_⟩
 ·exact (aE y (by omega) λe=>by have:=(h.out.lt y e).1;omega).trans ((hb2.block y (by omega)).trans ((hb1.block y (by omega)).trans (h.below.block y hy)))
 ·rw [Lj fs es (by rw [h.len];exact hi)];simp only [h.len];exact ho
 ·by_cases e:j=es.length
  ·obtain rfl:j=i:=e.trans h.len;have hx:(es++[(cb,cc,fb,fc)])[j]=(cb,cc,fb,fc):=by
    rw [WN (Yy e.symm)];simp [e]
   rw [hx];exact jc
  have eX:j<es.length:=by rw [QP] at hj;simp at hj;omega
  rw [WO eX];exact k7.con j eX aJ
 ·by_cases e:j=es.length
  ·obtain rfl:j=i:=e.trans h.len;have hx:(es++[(cb,cc,fb,fc)])[j]=(cb,cc,fb,fc):=by
    rw [WN (Yy e.symm)];simp [e]
   rw [hx];exact bu4
  have eX:j<es.length:=by rw [QP] at hj;simp at hj;omega
  rw [WO eX];exact k7.fld j eX aJ
 ·rw [MI,S7];refine ⟨h.fl.ap,?_,λa ha b hb e=> ?_⟩
  ·simp only [U6,Ra,Sf,OS,Vr,MA];omega
  have:=hlt a ha;simp only [Qa,Sf,Si] at hb;omega
 injection e with e;have e:g=y:=e;rw [MI,PE] at hy;rcases bL with bL | bL
 ·rcases hy with hy | hy
  ·exact h.apo y hy (by rw [bL,e])
  have:=pz g bL;simp only [Qa,Sf,Si] at hy;omega
 rcases hy with hy | hy
 ·have:=hlt y hy;omega
 simp only [Qa,Sf,Si] at hy;omega
structure Laid (lo:Nat)(fs:List Pu)(G C gb:Nat)(es:List Fe)(w:World):Prop where
 len:es.length=fs.length
 out:w.ownsRow lo 48 2 (.slice (some ⟨G,0,none⟩) (fs.length+1) C) (fs.length+1) (SL fs es++[.slice (some ⟨gb,0,none⟩) 1 1,.slice none 0 0])
 fl:Fl lo fs es w
 beh:w.heap[gb]? =some (.cells #[.string ⟨#[98,101,104,105,110,100]⟩] 9 (0,0))
 low:lo<=gb
 ap:G∉Sj es/\gb∉Sj es/\gb≠G
theorem Ly.laid {es:List Fe}{w8:World}(h:Ly W0 fs fs.length ov es wr){g cap:Nat}{o:Obj}(ho:w8.ownsRow W0.heap.size 48 2 (.slice (some ⟨g,0,none⟩) (fs.length+1) cap) (fs.length+1) (SL fs es++[.slice (some ⟨wr.heap.size,0,none⟩) 1 1,.slice none 0 0]))(hg:((wr.alloc (.cells #[.string ⟨#[98,101,104,105,110,100]⟩] 9)).alloc o).grownBy w8 ov.ownBlock)(bL:ov.ownBlock=some g\/g=wr.heap.size+2):Below W0.heap.size W0 w8/\Laid W0.heap.size fs g cap wr.heap.size es w8:=by
 have hlt:=h.fl.lt (by rw [h.len];omega);have s0:=h.below.size;have s8:=hg.size;rw [Sb,Sb] at s8;have pz:∀y,ov.ownBlock=some y->W0.heap.size<=y/\y<wr.heap.size:=λy hy=>h.out.lt y hy;have aE:∀y,y<wr.heap.size->ov.ownBlock≠some y->w8.heap[y]? =wr.heap[y]? :=λy hy am=>(hg.block y (by rw [Sb,Sb];omega) λe=>am e.symm).trans ((Qq _ _ _ (by rw [Sb];omega)).trans (Qq _ _ _ hy));refine ⟨⟨hg.os.trans h.below.os,hg.tape.trans h.below.tape,hg.output.trans h.below.output,by omega,λy hy=>(aE y (by omega) λe=>by have:=pz y e;omega).trans (h.below.block y hy)⟩,⟨h.len,ho,h.fl.on λy hy=>aE y (hlt y hy).2 (h.apo y hy),?_,s0,?_,?_,?_⟩⟩
 ·rw [hg.block _ (by rw [Sb,Sb];omega) λe=>by have:=(pz _ e.symm).2;omega,Qq _ _ _ (by rw [Sb];omega)];exact PF wr _
 ·intro hy;rcases bL with bL | bL
  ·exact h.apo g hy bL
  have:=hlt g hy;omega
 ·intro hy;have:=hlt _ hy;omega
 rcases bL with bL | bL
 ·have:=pz g bL;omega
 omega
end
