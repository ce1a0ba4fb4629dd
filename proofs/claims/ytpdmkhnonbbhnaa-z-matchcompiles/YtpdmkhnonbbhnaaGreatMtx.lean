import Derived.Test.YtpdmkhnonbbhnaaGreatMjx
import Derived.Test.YtpdmkhnonbbhnaaGreatRu
namespace Go.Proofs.YtpdmkhnonbbhnaaGreat
open Go.RowKit
set_option maxHeartbeats 16000000
set_option maxRecDepth 10000
section
variable {w:World}{S:Nat->Prop}{ad:Option Addr}{n c:Nat}
theorem Tryz.tyS:Ty 46 9 1 16:=Tryz.ty46
theorem Tryz.tyI:Ty 26 3 1 8:=Tryz.ty26
theorem Tryz.infoF:(Tryz.prog.info? 48).map (λi=>(i.zero,i.size,i.bytes))=some (some (.agg #[.slice none 0 0,.slice none 0 0]),2,48):=by kernel_rfl
theorem yp1 (w:World)(n:Nat)(hn:n<=100000):∃c,(Instr.makeSlice 22 (.int .i64 0) (.int .i64 n)).run Tryz.prog w= .ok (.slice (some ⟨w.heap.size,0,none⟩) 0 n) (w.alloc (.cells c 48))/\c.size=n*2:=by
 obtain ⟨i0,hi,c8,bK,bJ⟩:=info_parts Tryz.infoF;have:=Y6 (P:=Tryz.prog) w 22 48 i0 _ Tryz.underlying22 hi c8 .i64 .i64 0 n (by omega) (by omega) (by rw [bK];simp;omega) (by rw [bJ];omega) (by omega);refine ⟨_,by simpa using this,?_⟩;simp [madeCells,bK]
theorem yq1 (w:World)(c:Array Value)(n:Nat)(hc:c.size=n*2)(hn:n<=1000000):(w.alloc (.cells c 48)).ownsRow w.heap.size 48 2 (.slice (some ⟨w.heap.size,0,none⟩) 0 n) 0 []:=
 ⟨rfl,.inr ⟨w.heap.size,n,c,rfl,P6 _,PF w _,TD _,by unfold maxLen;omega,by omega,by simp⟩⟩
theorem UT {l:List Qg}(h:RE w S (.slice ad n c) l):Rg l=[]\/∃g q,ad=some ⟨g,q,none⟩/\S g/\∀j (h:j<(Rg l).length),w.cell? ⟨g,q+j,none⟩=some (Rg l)[j]:=by
 rcases h with ⟨h,_⟩ | ⟨g,o,cap,h1,h2,_,h4⟩
 ·exact .inl (by rw [h];rfl)
 have hl:0<l.length:=Tk.2 h2;refine .inr ⟨g,o,(RM h1).1,(h4 0 hl).1,λj hj=> ?_⟩;have aJ:j<l.length:=by simpa [Rg] using hj
 have:=(h4 j aJ).2.1;rw [R4] at this;rw [this];simp [Rg]
theorem Vo {l:List Int}(h:Rl w S (.slice ad n c) l):QU l=[]\/∃g q,ad=some ⟨g,q,none⟩/\S g/\∀j (h:j<(QU l).length),w.cell? ⟨g,q+j,none⟩=some (QU l)[j]:=by
 rcases h with ⟨h,_⟩ | ⟨g,o,cap,h1,h2,_,h4⟩
 ·exact .inl (by rw [h];rfl)
 have hl:0<l.length:=Tk.2 h2;refine .inr ⟨g,o,(RM h1).1,(h4 0 hl).1,λj hj=> ?_⟩;have aJ:j<l.length:=by simpa [QU] using hj
 have:=(h4 j aJ).2;rw [R4] at this;rw [this];simp [QU]
theorem X' {base e k:Nat}{xs:List Value}(h:w.ownsRow base e k (.slice ad n c) n xs):n<=c:=by
 rcases h.2 with ⟨h,_⟩ | ⟨g,cap,cur,h,_,_,h1,_⟩
 ·obtain ⟨_,h1,h2⟩:=RM h;omega
 obtain ⟨_,_,h2⟩:=RM h;omega
theorem yr1 (w:World)(o p:Obj):((w.alloc o).alloc p).heap[w.heap.size+1]? =some p:=by
 have:=PF (w.alloc o) p
 rwa [Sb] at this
theorem WE (l:List Qg):∀u∈Rg l,u.oneCell'=true:=λu hu=>by
 obtain ⟨s,_,rfl⟩:=PI.1 hu
 rfl
theorem Ws (l:List Int):∀u∈QU l,u.oneCell'=true:=λu hu=>by
 obtain ⟨s,_,rfl⟩:=PI.1 hu
 rfl
def FT (fs:List Pu)(w:World)(r:Ending)(w':World):Prop:=Below w.heap.size w w'/\∃G C gb es,r= .returned (.slice (some ⟨G,0,none⟩) fs.length C)/\Laid w.heap.size fs G C gb es w'
theorem WI {fa:Option Addr}{fc:Nat}{fs:List Pu}(hS:∀y,S y->y<w.heap.size)(hF:PH w S (.slice fa fs.length fc) fs)(hn:fs.length<=10000)(hsm:∀f∈fs,f.1.length<=10000/\f.2.length<=10000):
  Calls Tryz.prog 7 #[.slice fa fs.length fc] w (FT fs w):=by
 obtain ⟨Gg,xe,xf,xg,xh⟩:=info_parts Tryz.infoF;obtain ⟨c0,fp,hc0⟩:=yp1 w (fs.length+1) (by omega);have fp:(Instr.makeSlice 22 (.int .i64 0) (.int .i64 ((fs.length:Int)+1))).run Tryz.prog w= .ok (.slice (some ⟨w.heap.size,0,none⟩) 0 (fs.length+1)) (w.alloc (.cells c0 48)):=by simpa using fp
 have ib:Hid (Ly w fs 0 (.slice (some ⟨w.heap.size,0,none⟩) 0 (fs.length+1)) [] (w.alloc (.cells c0 48))):=⟨(Pb _ _).alloc (P6 _) _,rfl,TD _,by have:=yq1 w c0 _ hc0 (by omega);simpa [SL] using this,⟨λj h=>by simp at h,λj h=>by simp at h,Vr⟩,λy h=>by simp [Sj] at h⟩;have vG:Hid (∀i (h:i<fs.length),∃g o ca cc da dc,fa=some ⟨g,o,none⟩/\fs.length<=fc/\g<w.heap.size/\w.cell? ⟨g,o+i*2,none⟩=some (.slice ca fs[i].1.length cc)/\w.cell? ⟨g,o+i*2+1,none⟩=some (.slice da fs[i].2.length dc)/\RE w S (.slice ca fs[i].1.length cc) fs[i].1/\Rl w S (.slice da fs[i].2.length dc) fs[i].2):=λi hi=>by
  rcases hF with ⟨h,_⟩ | ⟨g,o,cap,h1,h2,h3,h4⟩
  ·rw [h] at hi;simp at hi
  obtain ⟨q0,⟨ca,cc,q1,q2⟩,da,dc,q3,q4⟩:=h4 i hi;obtain ⟨e1,_,e2⟩:=RM h1;exact ⟨g,o,ca,cc,da,dc,e1,by rw [e2];exact h3,hS g q0,q1,q3,q2,q4⟩
 have fT:Hid (∀i (h:i<fs.length),fs[i].1.length<=10000/\fs[i].2.length<=10000):=λi hi=>hsm _ (Px hi);have xi:Hid (∀y,S y->y<w.heap.size):=hS;clear hS hF hsm hc0;go_enter Tryz.func7,Tryz.ntmps7
 go_upto_region 4 with fail
 go_loopw [3,4] (λov iv wr=>∃(i:Nat) (oa:Option Addr) (oc:Nat) (es:List Fe),i<=fs.length/\iv= .int .i64 i/\ov= .slice oa i oc/\Hid (Ly w fs i (.slice oa i oc) es wr)) (λ_ iv _=>fs.length-(intOf iv).toNat)
 case atStart=>exact ⟨0,_,_,[],by omega,by go_num,rfl,ib.out⟩
 obtain ⟨i,oa,oc,es,hi,rfl,rfl,HL⟩:=hrel;by_cases ag:i<fs.length
 ·obtain ⟨g,o,ca,cc,da,dc,rfl,tu,dh,Bh,qo,eY,bh⟩:=vG.out i ag;have rW:=HL.out.below;have q0:wr.cell? ⟨g,o+i*2,none⟩=some (.slice ca fs[i].1.length cc):=(Qm (rW.block g dh) _).trans Bh;have q1:wr.cell? ⟨g,o+i*2+1,none⟩=some (.slice da fs[i].2.length dc):=(Qm (rW.block g dh) _).trans qo;obtain ⟨m1,m2⟩:=fT.out i ag;have Gh:Hid (Rg fs[i].1=[]\/∃g q,ca=some ⟨g,q,none⟩/\g<wr.heap.size/\∀j (h:j<(Rg fs[i].1).length),wr.cell? ⟨g,q+j,none⟩=some (Rg fs[i].1)[j]):=by
   rcases UT eY with h | ⟨g,q,h1,h2,h3⟩
   ·exact .inl h
   have:=xi.out g h2;exact .inr ⟨g,q,h1,PQ this rW.size,λj hj=>(Qm (rW.block g this) _).trans (h3 j hj)⟩
  have rX:Hid (QU fs[i].2=[]\/∃g q,da=some ⟨g,q,none⟩/\g<wr.heap.size/\∀j (h:j<(QU fs[i].2).length),wr.cell? ⟨g,q+j,none⟩=some (QU fs[i].2)[j]):=by
   rcases Vo bh with h | ⟨g,q,h1,h2,h3⟩
   ·exact .inl h
   have:=xi.out g h2;exact .inr ⟨g,q,h1,PQ this rW.size,λj hj=>(Qm (rW.block g this) _).trans (h3 j hj)⟩
  have mt:g<wr.heap.size:=PQ dh rW.size;have i1:(0:Int)<=(i:Int):=by omega
  have i2:(i:Int)<(fs.length:Int):=by omega
  have rY:Hid ((Rg fs[i].1).length=fs[i].1.length/\(QU fs[i].2).length=fs[i].2.length):=by constructor<;>simp [Rg,QU]
  have ai7:Hid (∀fl cb cc fb xj,fl=SL fs es++Zo fs[i] (cb,cc,fb,xj)->fl=SL fs es++[.slice (some ⟨cb,0,none⟩) fs[i].1.length cc,.slice (some ⟨fb,0,none⟩) fs[i].2.length xj]):=λfl cb cc fb xj h=>h;have qq:IntKind.i64.wrap ((fs[i].1.length:Int)+2)=(fs[i].1.length:Int)+2:=by rw [RV];omega
  have Cr:IntKind.i64.wrap ((fs[i].2.length:Int)+2)=(fs[i].2.length:Int)+2:=by rw [RV];omega
  clear Bh qo eY bh rW
  go_upto_region 5 with fail
  have aw:Below wr.heap.size wr wr.drew:=(Pb _ _).drew;refine CZ (S:=λw':World=>Below wr.heap.size wr w') (L:=16) (n:=17) (by kernel_rfl) rfl (by kernel_rfl) ?_;refine Rk (i:=0) (m':=1) (some 18) (v:= .slice (some ⟨g,o,none⟩) fs.length fc) rfl rfl (by kernel_rfl) (by kernel_rfl) (by kernel_rfl) (by kernel_rfl) (by kernel_rfl) (λ_ _ _ h=>h) (Or.inl ⟨by rfl,?_⟩) aw ?_
  ·intro w' aq;go_simp
  simp only [Act.put,PN,PS,PT];refine Rk (i:=1) (m':=3) (some 19) (v:= .int .i64 i) rfl rfl (by kernel_rfl) (by kernel_rfl) (by kernel_rfl) (by kernel_rfl) (by kernel_rfl) (λ_ _ _ h=>h) (Or.inl ⟨by rfl,?_⟩) aw ?_
  ·intro w' aq;go_simp
  simp only [Act.put,PN,PS,PT];refine Rk (i:=2) (m':=7) (some 20) (v:= .pointer (some ⟨g,o+i*2,none⟩)) rfl rfl (by kernel_rfl) (by kernel_rfl) (by kernel_rfl) (by kernel_rfl) (by kernel_rfl) (λ_ _ _ h=>h) (Or.inl ⟨by rfl,?_⟩) aw ?_
  ·intro w' aq;go_simp
  simp only [Act.put,PN,PS,PT];refine Rk (i:=3) (m':=15) (some 21) (v:= .pointer (some ⟨g,o+i*2,none⟩)) rfl rfl (by kernel_rfl) (by kernel_rfl) (by kernel_rfl) (by kernel_rfl) (by kernel_rfl) (λ_ _ _ h=>h) (Or.inl ⟨by rfl,?_⟩) aw ?_
  ·intro w' aq;go_simp
  simp only [Act.put,PN,PS,PT];refine Rk (i:=4) (m':=31) (some 22) (v:= .slice ca fs[i].1.length cc) rfl rfl (by kernel_rfl) (by kernel_rfl) (by kernel_rfl) (by kernel_rfl) (by kernel_rfl) (λ_ _ _ h=>h) (Or.inl ⟨by rfl,?_⟩) aw ?_
  ·intro w' aq;have s0:=(Qm (aq.block g mt) _).trans q0;go_simp
  simp only [Act.put,PN,PS,PT];refine Rk (i:=5) (m':=63) (some 23) (v:= .int .i64 fs[i].1.length) rfl rfl (by kernel_rfl) (by kernel_rfl) (by kernel_rfl) (by kernel_rfl) (by kernel_rfl) (λ_ _ _ h=>h) (Or.inl ⟨by rfl,?_⟩) aw ?_
  ·intro w' aq;go_simp
  simp only [Act.put,PN,PS,PT];refine Rk (i:=6) (m':=127) (some 24) (v:= .int .i64 ((fs[i].1.length+2:Nat):Int)) rfl rfl (by kernel_rfl) (by kernel_rfl) (by kernel_rfl) (by kernel_rfl) (by kernel_rfl) (λ_ _ _ h=>h) (Or.inl ⟨by rfl,?_⟩) aw ?_
  ·intro w' aq;go_simp
  simp only [Act.put,PN,PS,PT];refine Rk (i:=8) (m':=383) (some 26) (v:= .slice (some ⟨g,o,none⟩) fs.length fc) rfl rfl (by kernel_rfl) (by kernel_rfl) (by kernel_rfl) (by kernel_rfl) (by kernel_rfl) (λ_ _ _ h=>h) (Or.inl ⟨by rfl,?_⟩) aw ?_
  ·intro w' aq;go_simp
  simp only [Act.put,PN,PS,PT];refine Rk (i:=9) (m':=895) (some 27) (v:= .int .i64 i) rfl rfl (by kernel_rfl) (by kernel_rfl) (by kernel_rfl) (by kernel_rfl) (by kernel_rfl) (λ_ _ _ h=>h) (Or.inl ⟨by rfl,?_⟩) aw ?_
  ·intro w' aq;go_simp
  simp only [Act.put,PN,PS,PT];refine Rk (i:=10) (m':=1919) (some 28) (v:= .pointer (some ⟨g,o+i*2,none⟩)) rfl rfl (by kernel_rfl) (by kernel_rfl) (by kernel_rfl) (by kernel_rfl) (by kernel_rfl) (λ_ _ _ h=>h) (Or.inl ⟨by rfl,?_⟩) aw ?_
  ·intro w' aq;go_simp
  simp only [Act.put,PN,PS,PT];refine Rk (i:=11) (m':=3967) (some 29) (v:= .pointer (some ⟨g,o+i*2,none⟩)) rfl rfl (by kernel_rfl) (by kernel_rfl) (by kernel_rfl) (by kernel_rfl) (by kernel_rfl) (λ_ _ _ h=>h) (Or.inl ⟨by rfl,?_⟩) aw ?_
  ·intro w' aq;go_simp
  simp only [Act.put,PN,PS,PT];refine Rk (i:=12) (m':=8063) (some 30) (v:= .slice ca fs[i].1.length cc) rfl rfl (by kernel_rfl) (by kernel_rfl) (by kernel_rfl) (by kernel_rfl) (by kernel_rfl) (λ_ _ _ h=>h) (Or.inl ⟨by rfl,?_⟩) aw ?_
  ·intro w' aq;have s0:=(Qm (aq.block g mt) _).trans q0;go_simp
  simp only [Act.put,PN,PS,PT];refine Twi.run (t:=46) (e:=9) (b:=16) (k0:= .string ⟨#[98,101,104,105,110,100]⟩) (k1:= .string ⟨#[105,116]⟩) (c24:=24) (d25:=25) (c30:=30) (d31:=31) (d32:=32) (d33:=33) (d5:=5) (ys:=Rg fs[i].1) ⟨Tryz.tyS,rfl,rfl,rfl,rfl,rfl,?_,rfl,rfl,rfl,?_,rfl,rfl,rfl,?_,by kernel_rfl,by kernel_rfl,by kernel_rfl,by kernel_rfl,by kernel_rfl,by kernel_rfl,by kernel_rfl,by kernel_rfl,by decide,⟨rfl,rfl⟩⟩ (by simp) aw (by rw [rY.out.1];rfl) (by rw [rY.out.1];rfl) Gh.out (WE _) (by rw [rY.out.1];omega) ?_
  ·intro N a w K hN he h;obtain ⟨c,hr,hc⟩:=mc0 Tryz.tyS w N hN;have h2:=h c hc;have mu:a.tmps[24]?.getD undef= .int .i64 (N:Int):=by rw [<-he,Act.eval,Om]
   clear h he;go_simp;exact h2
  ·intro a w K h;go_simp;exact h
  ·intro a w K h;rw [Act.eval,Om] at h;go_simp;exact h
  intro qm x31 Ga cb cd W1 hb1 xk;rw [rY.out.1] at xk⊢;simp only [Act.put,PN,PS,PT];have Bi:W1.cell? ⟨g,o+i*2+1,none⟩=some (.slice da fs[i].2.length dc):=(Qm (hb1.block g mt) _).trans q1;have Gi:W1.cell? ⟨g,o+i*2,none⟩=some (.slice ca fs[i].1.length cc):=(Qm (hb1.block g mt) _).trans q0;have nf:g<W1.heap.size:=PQ mt hb1.size;have xl:Hid (QU fs[i].2=[]\/∃g q,da=some ⟨g,q,none⟩/\g<W1.heap.size/\∀j (h:j<(QU fs[i].2).length),W1.cell? ⟨g,q+j,none⟩=some (QU fs[i].2)[j]):=by
   rcases rX.out with h | ⟨g,q,h1,h2,h3⟩
   ·exact .inl h
   exact .inr ⟨g,q,h1,PQ h2 hb1.size,λj hj=>(Qm (hb1.block g h2) _).trans (h3 j hj)⟩
  have bI:Hid (Below wr.heap.size wr W1):=hb1;have ng:Hid (W1.ownsRow wr.heap.size 9 1 (.slice (some ⟨cb,0,none⟩) (fs[i].1.length+2) cd) (fs[i].1.length+2) (Rg fs[i].1++Zy)):=xk;have bi7:fs[i].1.length+2<=cd:=X' xk;clear aw hb1 xk q0 q1 rX
  go_upto_region 6 with fail
  have aw:Below W1.heap.size W1 W1.drew:=(Pb _ _).drew;refine CZ (S:=λw':World=>Below W1.heap.size W1 w') (L:=16) (n:=17) (by kernel_rfl) rfl (by kernel_rfl) ?_;refine Rk (i:=0) (m':=1) (some 34) (v:= .slice (some ⟨g,o,none⟩) fs.length fc) rfl rfl (by kernel_rfl) (by kernel_rfl) (by kernel_rfl) (by kernel_rfl) (by kernel_rfl) (λ_ _ _ h=>h) (Or.inl ⟨by rfl,?_⟩) aw ?_
  ·intro w' aq;go_simp
  simp only [Act.put,PN,PS,PT];refine Rk (i:=1) (m':=3) (some 35) (v:= .int .i64 i) rfl rfl (by kernel_rfl) (by kernel_rfl) (by kernel_rfl) (by kernel_rfl) (by kernel_rfl) (λ_ _ _ h=>h) (Or.inl ⟨by rfl,?_⟩) aw ?_
  ·intro w' aq;go_simp
  simp only [Act.put,PN,PS,PT];refine Rk (i:=2) (m':=7) (some 36) (v:= .pointer (some ⟨g,o+i*2,none⟩)) rfl rfl (by kernel_rfl) (by kernel_rfl) (by kernel_rfl) (by kernel_rfl) (by kernel_rfl) (λ_ _ _ h=>h) (Or.inl ⟨by rfl,?_⟩) aw ?_
  ·intro w' aq;go_simp
  simp only [Act.put,PN,PS,PT];refine Rk (i:=3) (m':=15) (some 37) (v:= .pointer (some ⟨g,o+i*2+1,none⟩)) rfl rfl (by kernel_rfl) (by kernel_rfl) (by kernel_rfl) (by kernel_rfl) (by kernel_rfl) (λ_ _ _ h=>h) (Or.inl ⟨by rfl,?_⟩) aw ?_
  ·intro w' aq;go_simp
  simp only [Act.put,PN,PS,PT];refine Rk (i:=4) (m':=31) (some 38) (v:= .slice da fs[i].2.length dc) rfl rfl (by kernel_rfl) (by kernel_rfl) (by kernel_rfl) (by kernel_rfl) (by kernel_rfl) (λ_ _ _ h=>h) (Or.inl ⟨by rfl,?_⟩) aw ?_
  ·intro w' aq;have s0:=(Qm (aq.block g nf) _).trans Bi;go_simp
  simp only [Act.put,PN,PS,PT];refine Rk (i:=5) (m':=63) (some 39) (v:= .int .i64 fs[i].2.length) rfl rfl (by kernel_rfl) (by kernel_rfl) (by kernel_rfl) (by kernel_rfl) (by kernel_rfl) (λ_ _ _ h=>h) (Or.inl ⟨by rfl,?_⟩) aw ?_
  ·intro w' aq;go_simp
  simp only [Act.put,PN,PS,PT];refine Rk (i:=6) (m':=127) (some 40) (v:= .int .i64 ((fs[i].2.length+2:Nat):Int)) rfl rfl (by kernel_rfl) (by kernel_rfl) (by kernel_rfl) (by kernel_rfl) (by kernel_rfl) (λ_ _ _ h=>h) (Or.inl ⟨by rfl,?_⟩) aw ?_
  ·intro w' aq;go_simp
  simp only [Act.put,PN,PS,PT];refine Rk (i:=8) (m':=383) (some 42) (v:= .slice (some ⟨g,o,none⟩) fs.length fc) rfl rfl (by kernel_rfl) (by kernel_rfl) (by kernel_rfl) (by kernel_rfl) (by kernel_rfl) (λ_ _ _ h=>h) (Or.inl ⟨by rfl,?_⟩) aw ?_
  ·intro w' aq;go_simp
  simp only [Act.put,PN,PS,PT];refine Rk (i:=9) (m':=895) (some 43) (v:= .int .i64 i) rfl rfl (by kernel_rfl) (by kernel_rfl) (by kernel_rfl) (by kernel_rfl) (by kernel_rfl) (λ_ _ _ h=>h) (Or.inl ⟨by rfl,?_⟩) aw ?_
  ·intro w' aq;go_simp
  simp only [Act.put,PN,PS,PT];refine Rk (i:=10) (m':=1919) (some 44) (v:= .pointer (some ⟨g,o+i*2,none⟩)) rfl rfl (by kernel_rfl) (by kernel_rfl) (by kernel_rfl) (by kernel_rfl) (by kernel_rfl) (λ_ _ _ h=>h) (Or.inl ⟨by rfl,?_⟩) aw ?_
  ·intro w' aq;go_simp
  simp only [Act.put,PN,PS,PT];refine Rk (i:=11) (m':=3967) (some 45) (v:= .pointer (some ⟨g,o+i*2+1,none⟩)) rfl rfl (by kernel_rfl) (by kernel_rfl) (by kernel_rfl) (by kernel_rfl) (by kernel_rfl) (λ_ _ _ h=>h) (Or.inl ⟨by rfl,?_⟩) aw ?_
  ·intro w' aq;go_simp
  simp only [Act.put,PN,PS,PT];refine Rk (i:=12) (m':=8063) (some 46) (v:= .slice da fs[i].2.length dc) rfl rfl (by kernel_rfl) (by kernel_rfl) (by kernel_rfl) (by kernel_rfl) (by kernel_rfl) (λ_ _ _ h=>h) (Or.inl ⟨by rfl,?_⟩) aw ?_
  ·intro w' aq;have s0:=(Qm (aq.block g nf) _).trans Bi;go_simp
  simp only [Act.put,PN,PS,PT];refine Twi.run (t:=26) (e:=3) (b:=8) (k0:= .int .i64 77) (k1:= .int .i64 78) (c24:=40) (d25:=41) (c30:=46) (d31:=47) (d32:=48) (d33:=49) (d5:=6) (ys:=QU fs[i].2) ⟨Tryz.tyI,rfl,rfl,rfl,rfl,rfl,?_,rfl,rfl,rfl,?_,rfl,rfl,rfl,?_,by kernel_rfl,by kernel_rfl,by kernel_rfl,by kernel_rfl,by kernel_rfl,by kernel_rfl,by kernel_rfl,by kernel_rfl,by decide,⟨rfl,rfl⟩⟩ (by simp) aw (by rw [rY.out.2];rfl) (by rw [rY.out.2];rfl) xl.out (Ws _) (by rw [rY.out.2];omega) ?_
  ·intro N a w K hN he h;obtain ⟨c,hr,hc⟩:=mc0 Tryz.tyI w N hN;have h2:=h c hc;have mu:a.tmps[40]?.getD undef= .int .i64 (N:Int):=by rw [<-he,Act.eval,Om]
   clear h he;go_simp;exact h2
  ·intro a w K h;go_simp;exact h
  ·intro a w K h;rw [Act.eval,Om] at h;go_simp;exact h
  intro am7 aa5 al4 fb fd W2 hb2 vH;rw [rY.out.2] at vH⊢;simp only [Act.put,PN,PS,PT];have Gj:W2.cell? ⟨g,o+i*2+1,none⟩=some (.slice da fs[i].2.length dc):=(Qm (hb2.block g nf) _).trans Bi;have Gk:W2.cell? ⟨g,o+i*2,none⟩=some (.slice ca fs[i].1.length cc):=(Qm (hb2.block g nf) _).trans Gi;have cK:g<W2.heap.size:=PQ nf hb2.size;have aS:Hid (Below W1.heap.size W1 W2):=hb2;have tq:Hid (W2.ownsRow W1.heap.size 3 1 (.slice (some ⟨fb,0,none⟩) (fs[i].2.length+2) fd) (fs[i].2.length+2) (QU fs[i].2++ZK)):=vH;have ab4:fs[i].2.length+2<=fd:=X' vH;clear aw hb2 vH Gi Bi xl Gh
  go_upto_region 7 with fail
  have aw:Below W2.heap.size W2 W2.drew:=(Pb _ _).drew;have vI:Hid (W2.drew.ownsRow w.heap.size 48 2 (.slice oa i oc) i (SL fs es)):=WM (WM (WM HL.out.out bI.out) aS.out) ((Pb _ _).drew);have bh3:w.heap.size<=W2.drew.heap.size:=by
   have h1:=HL.out.below.size;have h2:=bI.out.size;have h3:=aS.out.size;show w.heap.size<=W2.heap.size;omega
  have j1:(0:Int)<=(fs[i].1.length:Int):=by omega
  have j2:(fs[i].1.length:Int)<=(cd:Int):=by omega
  have j3:(0:Int)<=(fs[i].2.length:Int):=by omega
  have j4:(fs[i].2.length:Int)<=(fd:Int):=by omega
  refine CZ (S:=λw':World=>w'.heap[g]? =W2.heap[g]?) (L:=20) (n:=21) (by kernel_rfl) rfl (by kernel_rfl) ?_;refine Rk (i:=0) (m':=1) (some 50) (v:= .slice oa i oc) rfl rfl (by kernel_rfl) (by kernel_rfl) (by kernel_rfl) (by kernel_rfl) (by kernel_rfl) (λ_ _ _ h=>h) (Or.inl ⟨by rfl,?_⟩) (aw.block g cK) ?_
  ·intro w' aq;go_simp
  simp only [Act.put,PN,PS,PT];refine Rk (i:=1) (m':=3) (some 51) (v:= .slice (some ⟨cb,0,none⟩) (fs[i].1.length+2) cd) rfl rfl (by kernel_rfl) (by kernel_rfl) (by kernel_rfl) (by kernel_rfl) (by kernel_rfl) (λ_ _ _ h=>h) (Or.inl ⟨by rfl,?_⟩) (aw.block g cK) ?_
  ·intro w' aq;go_simp
  simp only [Act.put,PN,PS,PT];refine Rk (i:=2) (m':=7) (some 52) (v:= .slice (some ⟨g,o,none⟩) fs.length fc) rfl rfl (by kernel_rfl) (by kernel_rfl) (by kernel_rfl) (by kernel_rfl) (by kernel_rfl) (λ_ _ _ h=>h) (Or.inl ⟨by rfl,?_⟩) (aw.block g cK) ?_
  ·intro w' aq;go_simp
  simp only [Act.put,PN,PS,PT];refine Rk (i:=3) (m':=15) (some 53) (v:= .int .i64 i) rfl rfl (by kernel_rfl) (by kernel_rfl) (by kernel_rfl) (by kernel_rfl) (by kernel_rfl) (λ_ _ _ h=>h) (Or.inl ⟨by rfl,?_⟩) (aw.block g cK) ?_
  ·intro w' aq;go_simp
  simp only [Act.put,PN,PS,PT];refine Rk (i:=4) (m':=31) (some 54) (v:= .pointer (some ⟨g,o+i*2,none⟩)) rfl rfl (by kernel_rfl) (by kernel_rfl) (by kernel_rfl) (by kernel_rfl) (by kernel_rfl) (λ_ _ _ h=>h) (Or.inl ⟨by rfl,?_⟩) (aw.block g cK) ?_
  ·intro w' aq;go_simp
  simp only [Act.put,PN,PS,PT];refine Rk (i:=5) (m':=63) (some 55) (v:= .pointer (some ⟨g,o+i*2,none⟩)) rfl rfl (by kernel_rfl) (by kernel_rfl) (by kernel_rfl) (by kernel_rfl) (by kernel_rfl) (λ_ _ _ h=>h) (Or.inl ⟨by rfl,?_⟩) (aw.block g cK) ?_
  ·intro w' aq;go_simp
  simp only [Act.put,PN,PS,PT];refine Rk (i:=6) (m':=127) (some 56) (v:= .slice ca fs[i].1.length cc) rfl rfl (by kernel_rfl) (by kernel_rfl) (by kernel_rfl) (by kernel_rfl) (by kernel_rfl) (λ_ _ _ h=>h) (Or.inl ⟨by rfl,?_⟩) (aw.block g cK) ?_
  ·intro w' aq;have s0:=(Qm aq _).trans Gk;go_simp
  simp only [Act.put,PN,PS,PT];refine Rk (i:=7) (m':=255) (some 57) (v:= .int .i64 fs[i].1.length) rfl rfl (by kernel_rfl) (by kernel_rfl) (by kernel_rfl) (by kernel_rfl) (by kernel_rfl) (λ_ _ _ h=>h) (Or.inl ⟨by rfl,?_⟩) (aw.block g cK) ?_
  ·intro w' aq;go_simp
  simp only [Act.put,PN,PS,PT];refine Rk (i:=8) (m':=511) (some 58) (v:= .slice (some ⟨cb,0,none⟩) fs[i].1.length cd) rfl rfl (by kernel_rfl) (by kernel_rfl) (by kernel_rfl) (by kernel_rfl) (by kernel_rfl) (λ_ _ _ h=>h) (Or.inl ⟨by rfl,?_⟩) (aw.block g cK) ?_
  ·intro w' aq;go_simp
  simp only [Act.put,PN,PS,PT];refine Rk (i:=9) (m':=1023) (some 59) (v:= .slice (some ⟨fb,0,none⟩) (fs[i].2.length+2) fd) rfl rfl (by kernel_rfl) (by kernel_rfl) (by kernel_rfl) (by kernel_rfl) (by kernel_rfl) (λ_ _ _ h=>h) (Or.inl ⟨by rfl,?_⟩) (aw.block g cK) ?_
  ·intro w' aq;go_simp
  simp only [Act.put,PN,PS,PT];refine Rk (i:=10) (m':=2047) (some 60) (v:= .slice (some ⟨g,o,none⟩) fs.length fc) rfl rfl (by kernel_rfl) (by kernel_rfl) (by kernel_rfl) (by kernel_rfl) (by kernel_rfl) (λ_ _ _ h=>h) (Or.inl ⟨by rfl,?_⟩) (aw.block g cK) ?_
  ·intro w' aq;go_simp
  simp only [Act.put,PN,PS,PT];refine Rk (i:=11) (m':=4095) (some 61) (v:= .int .i64 i) rfl rfl (by kernel_rfl) (by kernel_rfl) (by kernel_rfl) (by kernel_rfl) (by kernel_rfl) (λ_ _ _ h=>h) (Or.inl ⟨by rfl,?_⟩) (aw.block g cK) ?_
  ·intro w' aq;go_simp
  simp only [Act.put,PN,PS,PT];refine Rk (i:=12) (m':=8191) (some 62) (v:= .pointer (some ⟨g,o+i*2,none⟩)) rfl rfl (by kernel_rfl) (by kernel_rfl) (by kernel_rfl) (by kernel_rfl) (by kernel_rfl) (λ_ _ _ h=>h) (Or.inl ⟨by rfl,?_⟩) (aw.block g cK) ?_
  ·intro w' aq;go_simp
  simp only [Act.put,PN,PS,PT];refine Rk (i:=13) (m':=16383) (some 63) (v:= .pointer (some ⟨g,o+i*2+1,none⟩)) rfl rfl (by kernel_rfl) (by kernel_rfl) (by kernel_rfl) (by kernel_rfl) (by kernel_rfl) (λ_ _ _ h=>h) (Or.inl ⟨by rfl,?_⟩) (aw.block g cK) ?_
  ·intro w' aq;go_simp
  simp only [Act.put,PN,PS,PT];refine Rk (i:=14) (m':=32767) (some 64) (v:= .slice da fs[i].2.length dc) rfl rfl (by kernel_rfl) (by kernel_rfl) (by kernel_rfl) (by kernel_rfl) (by kernel_rfl) (λ_ _ _ h=>h) (Or.inl ⟨by rfl,?_⟩) (aw.block g cK) ?_
  ·intro w' aq;have s0:=(Qm aq _).trans Gj;go_simp
  simp only [Act.put,PN,PS,PT];refine Rk (i:=15) (m':=65535) (some 65) (v:= .int .i64 fs[i].2.length) rfl rfl (by kernel_rfl) (by kernel_rfl) (by kernel_rfl) (by kernel_rfl) (by kernel_rfl) (λ_ _ _ h=>h) (Or.inl ⟨by rfl,?_⟩) (aw.block g cK) ?_
  ·intro w' aq;go_simp
  simp only [Act.put,PN,PS,PT];refine Rk (i:=16) (m':=131071) (some 66) (v:= .slice (some ⟨fb,0,none⟩) fs[i].2.length fd) rfl rfl (by kernel_rfl) (by kernel_rfl) (by kernel_rfl) (by kernel_rfl) (by kernel_rfl) (λ_ _ _ h=>h) (Or.inl ⟨by rfl,?_⟩) (aw.block g cK) ?_
  ·intro w' aq;go_simp
  simp only [Act.put,PN,PS,PT];refine Rk (i:=17) (m':=262143) (some 67) (v:= .agg #[.slice (some ⟨cb,0,none⟩) fs[i].1.length cd,.slice (some ⟨fb,0,none⟩) fs[i].2.length fd]) rfl rfl (by kernel_rfl) (by kernel_rfl) (by kernel_rfl) (by kernel_rfl) (by kernel_rfl) (λ_ _ _ h=>h) (Or.inl ⟨by rfl,?_⟩) (aw.block g cK) ?_
  ·intro w' aq;go_simp
  simp only [Act.put,PN,PS,PT];have tv:Below W2.heap.size W2 (W2.drew.alloc (.cells #[.slice (some ⟨cb,0,none⟩) fs[i].1.length cd,.slice (some ⟨fb,0,none⟩) fs[i].2.length fd] 48)):=aw.alloc (P6 _) _;have gV:(W2.alloc (.cells #[.slice (some ⟨cb,0,none⟩) fs[i].1.length cd,.slice (some ⟨fb,0,none⟩) fs[i].2.length fd] 48)).drew.heap.size=W2.drew.heap.size+1:=Sb W2 _;have bq:∀u∈[Value.slice (some ⟨cb,0,none⟩) fs[i].1.length cd,.slice (some ⟨fb,0,none⟩) fs[i].2.length fd],u.oneCell'=true:=λu hu=>by
   simp only [Qa,Sf,Si] at hu;rcases hu with rfl | rfl<;>rfl
  refine Y4 (i:=18) (m':=524287) (by kernel_rfl) rfl (by kernel_rfl) λK hK=> ?_;go_simp;refine hK.out _ _ (λ_=>tv.block g cK) ?_;clear hK K;refine Y4 (i:=19) (m':=1048575) (by kernel_rfl) rfl (by kernel_rfl) λK hK=> ?_;refine step_append_lies _ rfl _ _ 22 rfl w.heap.size 48 Gg _ 2 48 Tryz.underlying22 xe xf xg xh rfl (by decide) (.slice oa i oc) i (SL fs es) rfl (WM vI.out ((Pb _ _).alloc (P6 _) _)) ⟨W2.drew.heap.size,0,none⟩ 1 1 [.slice (some ⟨cb,0,none⟩) fs[i].1.length cd,.slice (some ⟨fb,0,none⟩) fs[i].2.length fd] rfl rfl (World.news_of_block (Qn W2.drew _)) bq (by omega) (by unfold maxLen;omega) (by omega) (by rw [gV];omega) (W2.drew.heap.size+1) gV ?_;intro g7 gh w7 dO dG gW nh;replace dG:(W2.drew.alloc (.cells #[.slice (some ⟨cb,0,none⟩) fs[i].1.length cd,.slice (some ⟨fb,0,none⟩) fs[i].2.length fd] 48)).grownBy w7 (Value.slice oa i oc).ownBlock:=dG;have cX:Hid (Ly w fs (i+1) (.slice (some ⟨g7,0,none⟩) (i+1) gh) (es++[(cb,cd,fb,fd)]) w7):=HL.out.put ag bI.out ng.out (aS.out.trans (aw.mono aS.out.size)) (WM tq.out aw) dO dG gW;have xo:w7.heap[g]? =W2.heap[g]? :=(dG.block g (by rw [Sb];exact Nat.lt_succ_of_lt cK) λe=>by have:=(vI.out.lt g e.symm).1;omega).trans (tv.block g cK);refine hK.out _ _ (λ_=>xo) ?_;clear hK K;simp only [Act.put,PN];refine Y4 (i:=20) (m':=2097151) (by kernel_rfl) rfl (by kernel_rfl) λK hK=> ?_;go_simp;refine hK.out _ _ (λh=>absurd rfl h) ?_;clear hK K;refine Yn (by kernel_rfl) ?_ _;clear dO dG gW nh vI ng tq bI aS HL tv xo aw gV bq Gk Gj;go_wp2;exact ⟨⟨i+1,some ⟨g7,0,none⟩,gh,es++[(cb,cd,fb,fd)],ag,by go_num,rfl,cX.out⟩,by simp [intOf];omega⟩
 obtain rfl:i=fs.length:=by omega
 have hown:((wr.alloc (.cells #[.string ⟨#[98,101,104,105,110,100]⟩] 9)).alloc (.cells #[.slice (some ⟨wr.heap.size,0,none⟩) 1 1,.slice none 0 0] 48)).ownsRow w.heap.size 48 2 (.slice oa fs.length oc) fs.length (SL fs es):=WM (WM HL.out.out ((Pb _ _).alloc (P6 _) _)) ((Pb _ _).alloc (P6 _) _);have bq:∀u∈[Value.slice (some ⟨wr.heap.size,0,none⟩) 1 1,.slice none 0 0],u.oneCell'=true:=λu hu=>by
  simp only [Qa,Sf,Si] at hu;rcases hu with rfl | rfl<;>rfl
 have bh3:=HL.out.below.size
 go_wp2_with (at_builtin;refine wpList_append_lies _ rfl _ _ 22 rfl w.heap.size 48 Gg _ 2 48 Tryz.underlying22 xe xf xg xh rfl (by decide) (.slice oa fs.length oc) fs.length (SL fs es) rfl hown ⟨wr.heap.size+1,0,none⟩ 1 1 [.slice (some ⟨wr.heap.size,0,none⟩) 1 1,.slice none 0 0] rfl rfl (World.news_of_block (yr1 wr _ _)) bq (by omega) (by unfold maxLen;omega) (by omega) (by simp;omega) (wr.heap.size+2) (by simp) ?_;intro g8 xp w8 rZ tx tz ag6;have ap2:(fs.length:Int)<=(xp:Int):=(by have:=X' rZ;omega);have dP:(0:Int)<=(fs.length:Int):=(by omega))
 have dj:Hid (Below w.heap.size w w8/\Laid w.heap.size fs g8 xp wr.heap.size es w8):=HL.out.laid rZ tx tz;go_ret;exact ⟨dj.out.1,g8,xp,wr.heap.size,es,rfl,dj.out.2⟩
end
section
variable {w w':World}{G lo C gb i cb cc fb fc:Nat}{fs:List Pu}{es:List Fe}{S:Nat->Prop}{f:Pu}
theorem Uw {base e k g n c:Nat}{xs:List Value}(h:w.ownsRow base e k (.slice (some ⟨g,0,none⟩) n c) n xs){j:Nat}(hj:j<n*k):w.cell? ⟨g,j,none⟩=xs[j]? :=by
 rcases h.2 with ⟨h2,_⟩ | ⟨g',cap,cur,h2,h3,h4,h5,h6,h7,h8⟩
 ·cases h2
 obtain ⟨e1,_,_⟩:=RM h2;injection e1 with e1;injection e1 with e1;subst e1;have hl:=h.1;have hx:xs[j]? =cur[j]? :=by
  rw [<-h8,ZH,Pc hj,Nr]
 have bn6:j<xs.length:=by omega
 rw [PR bn6] at hx⊢;exact P0 h4 hx.symm
structure LaidAt (w:World)(S:Nat->Prop)(f:Pu)(G i cb cc fb fc:Nat):Prop where
 s:S G/\S cb/\S fb
 c0:w.cell? ⟨G,i*2,none⟩=some (.slice (some ⟨cb,0,none⟩) f.1.length cc)
 c1:w.cell? ⟨G,i*2+1,none⟩=some (.slice (some ⟨fb,0,none⟩) f.2.length fc)
 rc:f.1.length+2<=cc
 rf:f.2.length+2<=fc
 con:∀j (h:j<f.1.length),w.cell? ⟨cb,j,none⟩=some (.string ⟨f.1[j].toArray⟩)
 b0:w.cell? ⟨cb,f.1.length,none⟩=some (.string ⟨#[98,101,104,105,110,100]⟩)
 b1:w.cell? ⟨cb,f.1.length+1,none⟩=some (.string ⟨#[105,116]⟩)
 fld:∀j (h:j<f.2.length),w.cell? ⟨fb,j,none⟩=some (.int .i64 f.2[j])
 m0:w.cell? ⟨fb,f.2.length,none⟩=some (.int .i64 77)
 m1:w.cell? ⟨fb,f.2.length+1,none⟩=some (.int .i64 78)
theorem LaidAt.on (h:LaidAt w S f G i cb cc fb fc)(hk:OZ S w w'):LaidAt w' S f G i cb cc fb fc:=by
 have k1:=hk G h.s.1;have k2:=hk cb h.s.2.1;have k3:=hk fb h.s.2.2;exact ⟨h.s,(Qm k1 _).trans h.c0,(Qm k1 _).trans h.c1,h.rc,h.rf,λj hj=>(Qm k2 _).trans (h.con j hj),(Qm k2 _).trans h.b0,(Qm k2 _).trans h.b1,λj hj=>(Qm k3 _).trans (h.fld j hj),(Qm k3 _).trans h.m0,(Qm k3 _).trans h.m1⟩
theorem Laid.at (h:Laid lo fs G C gb es w){i:Nat}(hi:i<fs.length)(aB:i<es.length):LaidAt w (λy=>y<w.heap.size) fs[i] G i es[i].1 es[i].2.1 es[i].2.2.1 es[i].2.2.2:=by
 have hc:=h.fl.con i aB hi;have hf:=h.fl.fld i aB hi;have hl:=CY fs es (Yy h.len);have fk:=h.len;obtain ⟨r0,r1⟩:=mf0 fs es i aB hi;refine ⟨⟨(h.out.lt G rfl).2,(hc.lt _ rfl).2,(hf.lt _ rfl).2⟩,?_,?_,X' hc,X' hf,λj hj=> ?_,?_,?_,λj hj=> ?_,?_,?_⟩
 ·rw [Uw h.out (by omega),Xo (by omega)];exact r0
 ·rw [Uw h.out (by omega),Xo (by omega)];exact r1
 ·rw [Uw hc (by omega),Xo (by simpa [Rg] using hj)];simp [Rg,hj]
 ·rw [Uw hc (by omega),WS (by simp [Rg])];simp [Rg,Zy]
 ·rw [Uw hc (by omega),WS (by simp [Rg])];simp [Rg,Zy]
 ·rw [Uw hf (by omega),Xo (by simpa [QU] using hj)];simp [QU,hj]
 ·rw [Uw hf (by omega),WS (by simp [QU])];simp [QU,ZK]
 rw [Uw hf (by omega),WS (by simp [QU])];simp [QU,ZK]
theorem LaidAt.strs (h:LaidAt w S f G i cb cc fb fc)(hs:∀s∈f.1,s.length<140737488355328):RE w S (.slice (some ⟨cb,0,none⟩) f.1.length cc) f.1:=by
 by_cases h0:f.1=[]
 ·exact .inl ⟨h0,some ⟨cb,0,none⟩,cc,by rw [h0];rfl⟩
 refine .inr ⟨cb,0,cc,rfl,h0,by have:=h.rc;omega,λj hj=>⟨h.s.2.1,?_,hs _ (Px hj)⟩⟩;rw [Rp,R4];exact h.con j hj
theorem LaidAt.ints (h:LaidAt w S f G i cb cc fb fc):Rl w S (.slice (some ⟨fb,0,none⟩) f.2.length fc) f.2:=by
 by_cases h0:f.2=[]
 ·exact .inl ⟨h0,some ⟨fb,0,none⟩,fc,by rw [h0];rfl⟩
 refine .inr ⟨fb,0,fc,rfl,h0,by have:=h.rf;omega,λj hj=>⟨h.s.2.2,?_⟩⟩;rw [Rp,R4];exact h.fld j hj
theorem Laid.fams (h:Laid lo fs G C gb es w)(hs:∀f∈fs,∀s∈f.1,s.length<140737488355328):PH w (λy=>y<w.heap.size) (.slice (some ⟨G,0,none⟩) fs.length C) fs:=by
 by_cases h0:fs=[]
 ·exact .inl ⟨h0,some ⟨G,0,none⟩,C,by rw [h0];rfl⟩
 refine .inr ⟨G,0,C,rfl,h0,by have:=X' h.out;omega,λj hj=> ?_⟩;have ha:=h.at hj (by rw [h.len];exact hj);rw [Rp];exact ⟨ha.s.1,⟨_,_,ha.c0,ha.strs (hs _ (Px hj))⟩,_,_,ha.c1,ha.ints⟩
theorem Laid.last (h:Laid lo fs G C gb es w):w.cell? ⟨G,fs.length*2,none⟩=some (.slice (some ⟨gb,0,none⟩) 1 1)/\w.cell? ⟨G,fs.length*2+1,none⟩=some (.slice none 0 0)/\w.cell? ⟨gb,0,none⟩=some (.string ⟨#[98,101,104,105,110,100]⟩)/\fs.length+1<=C/\G<w.heap.size/\gb<w.heap.size:=by
 have hl:=CY fs es (Yy h.len);have fk:=h.len;refine ⟨?_,?_,P0 h.beh rfl,X' h.out,(h.out.lt G rfl).2,PV h.beh⟩
 ·rw [Uw h.out (by omega),WS (by omega),hl];simp [fk]
 rw [Uw h.out (by omega),WS (by omega),hl,fk,show fs.length*2+1-fs.length*2=1 by omega]
 rfl
theorem Laid.on (h:Laid lo fs G C gb es w)(hk:∀y,(y=G\/y=gb\/y∈Sj es)->w'.heap[y]? =w.heap[y]?):Laid lo fs G C gb es w':=
 ⟨h.len,ZS h.out (hk G (.inl rfl)),h.fl.on λy hy=>hk y (.inr (.inr hy)),(hk gb (.inr (.inl rfl))).trans h.beh,h.low,h.ap⟩
theorem Laid.lt (h:Laid lo fs G C gb es w):∀y,(y=G\/y=gb\/y∈Sj es)->lo<=y/\y<w.heap.size:=λy hy=>by
 rcases hy with rfl | rfl | hy
 ·exact h.out.lt _ rfl
 ·exact ⟨h.low,PV h.beh⟩
 exact h.fl.lt (Yy h.len) y hy
end
theorem ys1 {w:World}{S:Nat->Prop}{lo:Nat}{fs:List Pu}{G C gb:Nat}{es:List Fe}{fa:Option Addr}{fc:Nat}(hL:Laid lo fs G C gb es w)(hS:∀y,S y->y<w.heap.size)(hF:PH w S (.slice fa fs.length fc) fs)(hn:fs.length<=10000)(hsm:∀f∈fs,f.1.length<=10000/\f.2.length<=10000):
  Calls Tryz.prog 14 #[.slice (some ⟨G,0,none⟩) fs.length C,.slice fa fs.length fc] w λr w'=>r= .returned (.bool true)/\Below w.heap.size w w':=by
 obtain ⟨l0,l1,l2,l3,l4,l5⟩:=hL.last;obtain ⟨W,hW⟩:∃W,W=w.alloc (.cells #[.slice (some ⟨gb,0,none⟩) 1 1,.slice none 0 0] 48):=⟨_,rfl⟩;have an:Below w.heap.size w W:=by rw [hW];exact (Pb _ _).alloc (P6 _) _
 have Gl:W.heap[w.heap.size]? =some (.cells #[.slice (some ⟨gb,0,none⟩) 1 1,.slice none 0 0] 48 (0,0)):=by rw [hW];exact PF w _
 have p0:=P0 (i:=0) Gl rfl;have p2:W.cell? ⟨gb,0,none⟩=some (.string ⟨#[98,101,104,105,110,100]⟩):=(Qm (an.block gb l5) _).trans l2;have vG:Hid (∀i (h:i<fs.length) (wr:World),Below w.heap.size w wr->∃cb cc fb fd g o ca cc' da dc,fa=some ⟨g,o,none⟩/\fs.length<=fc/\g<w.heap.size/\LaidAt wr (λy=>y<w.heap.size) fs[i] G i cb cc fb fd/\wr.cell? ⟨g,o+i*2,none⟩=some (.slice ca fs[i].1.length cc')/\wr.cell? ⟨g,o+i*2+1,none⟩=some (.slice da fs[i].2.length dc)/\Rl wr (λy=>y<w.heap.size) (.slice da fs[i].2.length dc) fs[i].2/\∀j (h:j<fs[i].1.length),∃g' o',ca=some ⟨g',o',none⟩/\fs[i].1.length<=cc'/\g'<w.heap.size/\wr.cell? ⟨g',o'+j,none⟩=some (.string ⟨fs[i].1[j].toArray⟩)):=λi hi wr hb=>by
  have hk:OZ (λy=>y<w.heap.size) w wr:=λy hy=>hb.block y hy;rcases hF with ⟨h,_⟩ | ⟨g,o,cap,h1,h2,h3,h4⟩
  ·rw [h] at hi;simp at hi
  obtain ⟨q0,⟨ca,cc',q1,q2⟩,da,dc,q3,q4⟩:=h4 i hi;obtain ⟨e1,_,e2⟩:=RM h1;refine ⟨_,_,_,_,g,o,ca,cc',da,dc,e1,by rw [e2];exact h3,hS g q0,(hL.at hi (by rw [hL.len];exact hi)).on hk,(Qm (hk g (hS g q0)) _).trans q1,(Qm (hk g (hS g q0)) _).trans q3,(q4.up hS).on hk,λj hj=> ?_⟩;rcases q2 with ⟨h,_⟩ | ⟨g',o',cap',r1,_,r3,r4⟩
  ·rw [h] at hj;simp at hj
  obtain ⟨f1,_,f2⟩:=RM r1;obtain ⟨s0,s1,_⟩:=r4 j hj;rw [R4] at s1;exact ⟨g',o',f1,by rw [f2];exact r3,hS g' s0,(Qm (hk g' (hS g' s0)) _).trans s1⟩
 have fT:Hid (∀i (h:i<fs.length),fs[i].1.length<=10000/\fs[i].2.length<=10000):=λi hi=>hsm _ (Px hi);have dB:=P4 an;have k0:(0:Int)<=(fs.length:Int):=by omega
 have k1:(fs.length:Int)+1<=(C:Int):=by omega
 have k2:(fs.length:Int)<(fs.length:Int)+1:=by omega
 have iu:IntKind.i64.wrap ((fs.length:Int)+1)=(fs.length:Int)+1:=by rw [RV];omega
 clear hL hS hF hsm an Gl l2;go_enter Tryz.func14,Tryz.ntmps14
 go_upto_region 3 with fail
 rw [<-hW];clear hW
 go_upto_region 6 with fail
 go_loopw [7] (λiv wr=>∃i:Nat,i<=fs.length/\iv= .int .i64 i/\Hid (Below w.heap.size w wr)) (λiv _=>fs.length-(intOf iv).toNat)
 case atStart=>exact ⟨0,by omega,by go_num,dB.out⟩
 obtain ⟨i,hi,rfl,HB⟩:=hrel;by_cases ag:i<fs.length
 ·obtain ⟨cb,cc,fb,fd,g,o,ca,cc',da,dc,rfl,tu,dh,bL,q0,q1,qi,qs⟩:=vG.out i ag wr HB.out;obtain ⟨m1,m2⟩:=fT.out i ag;have a0:=bL.c0;have a1:=bL.c1;have r1:=bL.rc;have r2:=bL.rf;have hsz:=HB.size;have jC:OZ (λy=>y<w.heap.size) wr wr.drew:=λy hy=>(Pb wr.heap.size wr).drew.block y (PQ hy hsz);have CI:=LP _ _ fs[i].2 fs[i].2 wr.drew (λy=>y<wr.drew.heap.size) (λ_ h=>h) ((bL.ints.on jC).up λy hy=>PQ hy hsz) ((qi.on jC).up λy hy=>PQ hy hsz) (by omega);simp only [decide_true] at CI;have fU:Hid (∀V,Below wr.heap.size wr V->LaidAt V (λy=>y<w.heap.size) fs[i] G i cb cc fb fd/\V.cell? ⟨g,o+i*2,none⟩=some (.slice ca fs[i].1.length cc')/\V.cell? ⟨g,o+i*2+1,none⟩=some (.slice da fs[i].2.length dc)/\∀j (h:j<fs[i].1.length),∃g' o',ca=some ⟨g',o',none⟩/\fs[i].1.length<=cc'/\V.cell? ⟨g',o'+j,none⟩=some (.string ⟨fs[i].1[j].toArray⟩)):=λV hV=>by
   have hk:OZ (λy=>y<w.heap.size) wr V:=λy hy=>hV.block y (PQ hy hsz);refine ⟨bL.on hk,(Qm (hk g dh) _).trans q0,(Qm (hk g dh) _).trans q1,λj hj=> ?_⟩;obtain ⟨g',o',z1,z2,z3,z4⟩:=qs j hj;exact ⟨g',o',z1,z2,(Qm (hk g' z3) _).trans z4⟩
  have i1:(0:Int)<=(i:Int):=by omega
  have i2:(i:Int)<(fs.length:Int):=by omega
  have i3:(i:Int)<(fc:Int):=by omega
  clear bL qi qs jC
  go_upto_region 10 with fail
  have ie:wr.drew.cell? ⟨G,i*2+1,none⟩=some (.slice (some ⟨fb,0,none⟩) fs[i].2.length fd)/\wr.drew.cell? ⟨g,o+i*2+1,none⟩=some (.slice da fs[i].2.length dc):=⟨(fU.out wr.drew (Pb _ _).drew).1.c1,(fU.out wr.drew (Pb _ _).drew).2.2.1⟩
  go_region_held3 (λV=>V.cell? ⟨G,i*2+1,none⟩=some (.slice (some ⟨fb,0,none⟩) fs[i].2.length fd)/\V.cell? ⟨g,o+i*2+1,none⟩=some (.slice da fs[i].2.length dc))
   (first | (with_reducible exact ie) | (with_reducible exact mw))
   (first
   | (go_at_call 18;(with_reducible refine Pe CI ?_);rintro e' w3 ⟨rfl,hb3⟩;have hB3:Below wr.heap.size wr w3:=⟨hb3.os,hb3.tape,hb3.output,hb3.size,hb3.block⟩;have mw:w3.cell? ⟨G,i*2+1,none⟩=some (.slice (some ⟨fb,0,none⟩) fs[i].2.length fd)/\w3.cell? ⟨g,o+i*2+1,none⟩=some (.slice da fs[i].2.length dc):=⟨(fU.out w3 hB3).1.c1,(fU.out w3 hB3).2.2.1⟩))
  obtain ⟨mV,an3,aa4,bo6⟩:=fU.out w3 hB3;have ac5:=mV.c0;have HB3:=P4 hB3;clear mV bo6 hB3 ie mw hb3 q0 q1 a0 a1 CI
  go_upto_region 14 with fail
  obtain ⟨V0,tA⟩:∃x,x=wr:=⟨_,rfl⟩;subst tA
  go_loopw [11] (λkv w9=>∃q:Nat,q<=fs[i].1.length/\kv= .int .i64 q/\Hid (Below V0.heap.size V0 w9)) (λkv _=>fs[i].1.length-(intOf kv).toNat)
  case atStart=>exact ⟨0,by omega,by go_num,HB3.out⟩
  obtain ⟨q,hq,rfl,tB⟩:=hrel;by_cases dZ:q<fs[i].1.length
  ·obtain ⟨gj,Cu,Gm,Gn⟩:=fU.out wr.drew tB.drew;obtain ⟨g',o',rfl,hcc,z4⟩:=Gn q dZ;have ie:(wr.drew.cell? ⟨G,i*2,none⟩=some (.slice (some ⟨cb,0,none⟩) fs[i].1.length cc)/\wr.drew.cell? ⟨cb,q,none⟩=some (.string ⟨fs[i].1[q].toArray⟩))/\wr.drew.cell? ⟨g,o+i*2,none⟩=some (.slice (some ⟨g',o',none⟩) fs[i].1.length cc')/\wr.drew.cell? ⟨g',o'+q,none⟩=some (.string ⟨fs[i].1[q].toArray⟩):=⟨⟨gj.c0,gj.con q dZ⟩,Cu,z4⟩;have j1:(0:Int)<=(q:Int):=by omega
   have j2:(q:Int)<(fs[i].1.length:Int):=by omega
   have CQ:=P4 tB.drew;clear gj Cu Gm Gn z4
   go_upto_region 16 with fail
   go_region_held3 (λV=>(V.cell? ⟨G,i*2,none⟩=some (.slice (some ⟨cb,0,none⟩) fs[i].1.length cc)/\V.cell? ⟨cb,q,none⟩=some (.string ⟨fs[i].1[q].toArray⟩))/\V.cell? ⟨g,o+i*2,none⟩=some (.slice (some ⟨g',o',none⟩) fs[i].1.length cc')/\V.cell? ⟨g',o'+q,none⟩=some (.string ⟨fs[i].1[q].toArray⟩)) (first | (with_reducible exact ie) | assumption | go_keep) (first | fail)
   go_wp2;exact ⟨⟨q+1,dZ,by go_num,CQ.out⟩,by simp [intOf];omega⟩
  obtain rfl:q=fs[i].1.length:=by omega
  obtain ⟨gj,Cu,Gm,_⟩:=fU.out wr tB.out;have a0:=gj.c0;have a1:=gj.c1;have e0:=gj.b0;have e1:=gj.b1;have e2:=gj.m0;have e3:=gj.m1;have j1:(0:Int)<=(fs[i].1.length:Int):=by omega
  have j2:(0:Int)<=(fs[i].2.length:Int):=by omega
  have j3:(fs[i].1.length:Int)+2<=(cc:Int):=by omega
  have j4:(fs[i].2.length:Int)+2<=(fd:Int):=by omega
  have w1:IntKind.i64.wrap ((fs[i].1.length:Int)+2)=(fs[i].1.length:Int)+2:=by rw [RV];omega
  have w2:IntKind.i64.wrap ((fs[i].2.length:Int)+2)=(fs[i].2.length:Int)+2:=by rw [RV];omega
  have aq6:IntKind.i64.wrap ((fs[i].1.length:Int)+1)=(fs[i].1.length:Int)+1:=by rw [RV];omega
  have w4:IntKind.i64.wrap ((fs[i].2.length:Int)+1)=(fs[i].2.length:Int)+1:=by rw [RV];omega
  have CQ:=P4 (HB.trans (tB.mono hsz));clear gj fU vG;go_wp2;exact ⟨⟨i+1,ag,by go_num,CQ.out⟩,by simp [intOf];omega⟩
 obtain rfl:i=fs.length:=by omega
 go_wp2;go_ret;exact ⟨rfl,HB.out⟩
