import Derived.Test.YtpdmkhnonbbhnaaGreatMgx
import Derived.Lib.AppendZeros
import Derived.Laws.AppendOwnNone
namespace Go.Proofs.YtpdmkhnonbbhnaaGreat
open Go.RowKit Go.Maps
set_option maxHeartbeats 4000000
set_option maxRecDepth 100000
set_option linter.unusedSimpArgs false
section
variable {w:World}
def Rt (w:World)(S:Nat->Prop)(v:Value)(l:List Value):Prop:=Pd 1 (λg o x=>S g/\w.cell? ⟨g,o,none⟩=some x) v l
theorem Rt.on {w':World}{S:Nat->Prop}{v:Value}{l:List Value}(h:Rt w S v l)(hb:OZ S w w'):Rt w' S v l:=h.mono λg o _ _ ⟨h0,h1⟩=>⟨h0,(hb.cell (p:=⟨g,o,none⟩) h0).trans h1⟩
theorem Tryz.info3:(Tryz.prog.info? 3).map (λi=>(i.zero,i.size,i.bytes))=some (some (.int .i64 0),1,8):=by kernel_rfl
theorem MZ (n:Nat)(hn:n<=1000000)(w:World):Calls Tryz.prog 104 #[.slice none 0 0,.int .i64 n] w λr w'=>∃v,r= .returned v/\w'.ownsRow w.heap.size 3 1 v 0 []/\Below w.heap.size w w':=by
 by_cases h0:n=0
 ·subst h0;go_enter Tryz.func104,Tryz.ntmps104;go_wp2;go_ret;exact ⟨_,rfl,U4 _ _ _ _,Pb _ _⟩
 obtain ⟨i0,hi,c8,bK,bJ⟩:=info_parts Tryz.info3;have hr:=Lib.run_append_nil_zeros (P:=Tryz.prog) w 26 3 26 3 i0 _ .i64 .i64 Tryz.underlying26 Tryz.underlying3 hi c8 n (by omega) (by rw [bK];omega) (by omega) (by rw [bJ];omega);have aM:n<=grownCap w n 0 3:=grownCap_ge w n 0 3;have aX:grownCap w n 0 3<=maxLen:=grownCap_le_maxLen w n 0 3 (by unfold maxLen;omega);generalize grownCap w n 0 3=cap at *
 have hp:(0:Int)<(n:Int):=by omega
 have HE:Hid ((w.drew.alloc (.cells (Builtin.zeroCells (Value.int .i64 0).cells n++Builtin.zeroCells (Value.int .i64 0).cells (cap-n)) 3)).ownsRow w.heap.size 3 1 (.slice (some ⟨w.heap.size,0,none⟩) 0 cap) 0 []):=by
  refine ⟨by simp,.inr ⟨w.heap.size,cap,_,rfl,P6 _,PF w.drew _,by omega,aX,?_,by simp⟩⟩;simp [Builtin.zeroCells,Value.cells];omega
 have HB:Hid (Below w.heap.size w (w.drew.alloc (.cells (Builtin.zeroCells (Value.int .i64 0).cells n++Builtin.zeroCells (Value.int .i64 0).cells (cap-n)) 3))):=(Pb _ _).drew.alloc (P6 _) _;generalize w.drew.alloc (.cells (Builtin.zeroCells (Value.int .i64 0).cells n++Builtin.zeroCells (Value.int .i64 0).cells (cap-n)) 3)=W2 at *
 have iu:IntKind.i64.wrap (n:Int)=n:=by rw [RV];omega
 have hc0:(0:Int)<=(cap:Int):=by omega
 clear aM aX c8 bK bJ;go_enter Tryz.func104,Tryz.ntmps104
 go_wp2_with (at_builtin;refine Lib.wpList_append_run _ rfl _ _ 26 3 rfl _ _ rfl rfl _ _ hr ?_)
 go_ret;exact ⟨_,rfl,HE.out,HB.out⟩
theorem OU {base t ty e n size:Nat}{i:TypeInfo}(ht:Tryz.prog.underlying t=some (.slice e))(hi:Tryz.prog.info? e=some i){v:Value}{xs:List Value}(hown:w.ownsRow base e size v n xs)(ad:Option Addr)(c:Nat):
  (Builtin.append_ #[t,t] ty #[v,.slice ad 0 c]).run Tryz.prog w= .ok v w:=by
 have yF:∀a,(loadCells a 0).run Tryz.prog w= .ok #[] w:=λa=>by simp [loadCells,loadCellsFrom]
 rcases hown.2 with ⟨rfl,rfl⟩ | ⟨g,cap,cur,rfl,_,_,iY,_⟩
 ·cases ad<;>simp [yF,Builtin.append_,NC ht,sizeOf,typeInfo,hi,Builtin.lenOf,Builtin.firstCells]
 cases ad<;>simp [yF,Builtin.append_,NC ht,sizeOf,typeInfo,hi,Builtin.lenOf,Builtin.firstCells,iY,storeCells]
def PB (xs:List (Value×List Value)):Nat:=(xs.map λx=>x.2.length).sum
theorem OM (xs:List (Value×List Value))(i:Nat)(h:i<xs.length):PB (xs.take (i+1))=PB (xs.take i)+xs[i].2.length:=by
 unfold PB;rw [S1,PR h,R6];simp
theorem Od (xs:List (Value×List Value))(i:Nat):PB (xs.take i)<=PB xs:=by
 unfold PB
 conv=>rhs;rw [<-Ug i xs,R6,Kk]
 omega
theorem KT (xs:List (Value×List Value))(A:Nat)(S:Nat->Prop)(w:World)(hS:∀b,S b->b<w.heap.size)(hA:A<w.heap.size)(hc:∀i (h:i<xs.length),w.cell? ⟨A,i,none⟩=some xs[i].1)(hV:∀x∈xs,Rt w S x.1 x.2/\∀u∈x.2,u.oneCell'=true)(hx:xs.length<=10)(ht:PB xs<=100000):
  Calls Tryz.prog 93 #[.slice (some ⟨A,0,none⟩) xs.length xs.length] w λr w'=>∃v,r= .returned v/\w'.ownsRow w.heap.size 3 1 v (PB xs) (xs.flatMap (·.2))/\Below w.heap.size w w':=by
 have HS:=P4 hS;have HV:=P4 hV;have gL:=P4 hc;clear hS hV hc;go_enter Tryz.func93,Tryz.ntmps93;go_wp2
 go_loopw [3,11] (λsv iv wr=>∃i:Nat,i<=xs.length/\iv= .int .i64 i/\sv= .int .i64 (PB (xs.take i):Nat)/\wr=w) (λ_ iv _=>xs.length-(intOf iv).toNat)
 case atStart=>exact ⟨0,by omega,by go_num,rfl,rfl⟩
 obtain ⟨i,hi,rfl,rfl,rfl⟩:=hrel;by_cases ag:i<xs.length
 ·have q:=gL.out i ag;obtain ⟨ad,cap,hv⟩:=(HV.out xs[i] (Px ag)).1.len;rw [hv] at q;have i1:(0:Int)<=(i:Int):=by omega
  have i2:(i:Int)<(xs.length:Int):=by omega
  have nH:=OM xs i ag;have iC:=Od xs (i+1);have HT:Hid (((PB (xs.take (i+1)):Nat):Int)=(PB (xs.take i):Int)+(xs[i].2.length:Int)):=by show _=_;omega
  have hw:IntKind.i64.wrap ((PB (xs.take i):Int)+(xs[i].2.length:Int))=(PB (xs.take i):Int)+(xs[i].2.length:Int):=by rw [RV];omega
  have hp:¬((PB (xs.take i):Int)+(xs[i].2.length:Int)<0):=by omega
  generalize PB (xs.take i)=T at *
  generalize xs[i].2.length=nl at *
  clear hv nH;go_wp2
  go_roundw
  case rel=>exact ⟨i+1,ag,by go_num,by rw [HT.out],by first | rfl | trivial⟩
  case measure=>simp [intOf];omega
 obtain rfl:i=xs.length:=by omega
 rw [QM]
 rename World=>w0
 have CG:=MZ (PB xs) (by omega) w0;have qK:=P4 ht
 go_upto_region 10 with (first | (go_at_call 104;(with_reducible refine Pe CG ?_);rintro e' w1 ⟨v1,rfl,hown1,hb1⟩))
 have ng:=Qh hown1 hb1;clear hown1 hb1 CG;obtain ⟨i0,d7,c8,bK,bJ⟩:=info_parts Tryz.info3;go_wp2
 go_loopw [6,27] (λnv iv wr=>∃i:Nat,i<=xs.length/\iv= .int .i64 i/\Hid (wr.ownsRow w0.heap.size 3 1 nv (PB (xs.take i)) ((xs.take i).flatMap (·.2))/\Below w0.heap.size w0 wr)) (λ_ iv _=>xs.length-(intOf iv).toNat)
 case atStart=>exact ⟨0,by omega,by go_num,ng.out⟩
 obtain ⟨i,hi,rfl,HO⟩:=hrel;by_cases ag:i<xs.length
 ·have hsz:w0.heap.size<=wr.heap.size:=HO.2.size;have q:=(HO.2.cell (p:=⟨A,i,none⟩) hA).trans (gL.out i ag);obtain ⟨tT,bq⟩:=HV.out xs[i] (Px ag);have tT:=tT.on (OZ.of HO.2 HS.out);have i1:(0:Int)<=(i:Int):=by omega
  have i2:(i:Int)<(xs.length:Int):=by omega
  have nH:=OM xs i ag;have iC:=Od xs (i+1);have aY:(xs.take (i+1)).flatMap (·.2)=(xs.take i).flatMap (·.2)++xs[i].2:=by
   rw [S1,PR ag,WW];simp
  have HF:Hid (∀(v':Value) (w':World),w'.ownsRow w0.heap.size 3 1 v' (PB (xs.take i)+xs[i].2.length) ((xs.take i).flatMap (·.2)++xs[i].2)->w'.ownsRow w0.heap.size 3 1 v' (PB (xs.take (i+1))) ((xs.take (i+1)).flatMap (·.2))):=λv' w' h=>by rw [nH,aY];exact h
  have hown:=HO.1;rcases tT with ⟨h0,ad,cap,hv⟩ | ⟨g,o,cap,hv,h0,aM,bn⟩
  ·rw [hv] at q;have hr:=OU (t:=26) (ty:=26) Tryz.underlying26 d7 hown ad cap;have HE:=HF.out u6 wr (by rw [h0];simpa using hown);have HE:=P4 HE;clear hv nH iC aY hown h0 bq
   go_wp2_with (at_builtin;refine Lib.wpList_append_run _ rfl _ _ 26 26 rfl _ _ rfl rfl _ _ hr ?_)
   go_roundw
   case rel=>exact ⟨i+1,ag,by go_num,HE.out,HO.2⟩
   case measure=>simp [intOf];omega
  rw [hv] at q;have dw:∀j u,xs[i].2[j]? =some u->wr.cell? ((⟨g,o,none⟩:Addr).add j)=some u:=λj u hu=>by
   have hj:j<xs[i].2.length:=(Tt.1 hu).1;have:=(bn j hj).2;rw [PR hj] at hu;rw [<-hu,<-this]
   congr 1
   unfold Addr.add;split
   ·rename_i e;rw [e]
    rfl
   show (⟨g,o+j,none⟩:Addr)=⟨g,o+j*1,none⟩;rw [R4]
  have hbig:PB (xs.take i)+xs[i].2.length<=100000:=by have:=qK.out;omega
  have nI:=P4 bq;clear hv nH iC aY bq bn
  go_wp2_with (at_builtin;refine wpList_append_own _ rfl _ _ 26 rfl w0.heap.size 3 i0 _ 1 8 Tryz.underlying26 d7 c8 bK bJ rfl (by decide) _ _ _ rfl hown ⟨g,o,none⟩ xs[i].2.length cap xs[i].2 rfl (by rw [R4]) dw nI.out (by unfold maxLen;omega) (by omega) hsz ?_;intro v3 w3 aU ja _)
  have HE:Hid (w3.ownsRow w0.heap.size 3 1 v3 (PB (xs.take (i+1))) ((xs.take (i+1)).flatMap (·.2))/\Below w0.heap.size w0 w3):=⟨HF.out v3 w3 aU,HO.2.grown ja hsz (λk e=>(HO.1.lt k e).1)⟩;clear aU ja hown dw;go_wp2
  go_roundw
  case rel=>exact ⟨i+1,ag,by go_num,HE.out⟩
  case measure=>simp [intOf];omega
 obtain rfl:i=xs.length:=by omega
 have HE:Hid (wr.ownsRow w0.heap.size 3 1 u6 (PB xs) (xs.flatMap (·.2))/\Below w0.heap.size w0 wr):=by
  have:=HO.out
  rwa [QM] at this
 go_wp2;go_ret;exact ⟨_,rfl,HE.out⟩
end
theorem Gd (n:Nat)(hn:n<=1000000)(w:World):Calls Tryz.prog 105 #[.slice none 0 0,.int .i64 n] w λr w'=>∃v,r= .returned v/\w'.ownsRow w.heap.size 109 1 v 0 []/\Below w.heap.size w w':=by
 by_cases h0:n=0
 ·subst h0;go_enter Tryz.func105,Tryz.ntmps105;go_wp2;go_ret;exact ⟨_,rfl,U4 _ _ _ _,Pb _ _⟩
 obtain ⟨i0,hi,c8,bK,bJ⟩:=info_parts Tryz.info109;have hr:=Lib.run_append_nil_zeros (P:=Tryz.prog) w 72 3 72 109 i0 _ .i64 .i64 Tryz.underlying72 Tryz.underlying3 hi c8 n (by omega) (by rw [bK];omega) (by omega) (by rw [bJ];omega);have aM:n<=grownCap w n 0 109:=grownCap_ge w n 0 109;have aX:grownCap w n 0 109<=maxLen:=grownCap_le_maxLen w n 0 109 (by unfold maxLen;omega);generalize grownCap w n 0 109=cap at *
 have hp:(0:Int)<(n:Int):=by omega
 have HE:Hid ((w.drew.alloc (.cells (Builtin.zeroCells (Value.pointer none).cells n++Builtin.zeroCells (Value.pointer none).cells (cap-n)) 109)).ownsRow w.heap.size 109 1 (.slice (some ⟨w.heap.size,0,none⟩) 0 cap) 0 []):=by
  refine ⟨by simp,.inr ⟨w.heap.size,cap,_,rfl,P6 _,PF w.drew _,by omega,aX,?_,by simp⟩⟩;simp [Builtin.zeroCells,Value.cells];omega
 have HB:Hid (Below w.heap.size w (w.drew.alloc (.cells (Builtin.zeroCells (Value.pointer none).cells n++Builtin.zeroCells (Value.pointer none).cells (cap-n)) 109))):=(Pb _ _).drew.alloc (P6 _) _;generalize w.drew.alloc (.cells (Builtin.zeroCells (Value.pointer none).cells n++Builtin.zeroCells (Value.pointer none).cells (cap-n)) 109)=W2 at *
 have iu:IntKind.i64.wrap (n:Int)=n:=by rw [RV];omega
 have hc0:(0:Int)<=(cap:Int):=by omega
 clear aM aX c8 bK bJ;go_enter Tryz.func105,Tryz.ntmps105
 go_wp2_with (at_builtin;refine Lib.wpList_append_run _ rfl _ _ 72 3 rfl _ _ rfl rfl _ _ hr ?_)
 go_ret;exact ⟨_,rfl,HE.out,HB.out⟩
theorem Xk (xs:List (Value×List Value))(A:Nat)(S:Nat->Prop)(w:World)(hS:∀b,S b->b<w.heap.size)(hA:A<w.heap.size)(hc:∀i (h:i<xs.length),w.cell? ⟨A,i,none⟩=some xs[i].1)(hV:∀x∈xs,Rt w S x.1 x.2/\∀u∈x.2,u.oneCell'=true)(hx:xs.length<=10)(ht:PB xs<=100000):
  Calls Tryz.prog 94 #[.slice (some ⟨A,0,none⟩) xs.length xs.length] w λr w'=>∃v,r= .returned v/\w'.ownsRow w.heap.size 109 1 v (PB xs) (xs.flatMap (·.2))/\Below w.heap.size w w':=by
 have HS:=P4 hS;have HV:=P4 hV;have gL:=P4 hc;clear hS hV hc;go_enter Tryz.func94,Tryz.ntmps94;go_wp2
 go_loopw [3,11] (λsv iv wr=>∃i:Nat,i<=xs.length/\iv= .int .i64 i/\sv= .int .i64 (PB (xs.take i):Nat)/\wr=w) (λ_ iv _=>xs.length-(intOf iv).toNat)
 case atStart=>exact ⟨0,by omega,by go_num,rfl,rfl⟩
 obtain ⟨i,hi,rfl,rfl,rfl⟩:=hrel;by_cases ag:i<xs.length
 ·have q:=gL.out i ag;obtain ⟨ad,cap,hv⟩:=(HV.out xs[i] (Px ag)).1.len;rw [hv] at q;have i1:(0:Int)<=(i:Int):=by omega
  have i2:(i:Int)<(xs.length:Int):=by omega
  have nH:=OM xs i ag;have iC:=Od xs (i+1);have HT:Hid (((PB (xs.take (i+1)):Nat):Int)=(PB (xs.take i):Int)+(xs[i].2.length:Int)):=by show _=_;omega
  have hw:IntKind.i64.wrap ((PB (xs.take i):Int)+(xs[i].2.length:Int))=(PB (xs.take i):Int)+(xs[i].2.length:Int):=by rw [RV];omega
  have hp:¬((PB (xs.take i):Int)+(xs[i].2.length:Int)<0):=by omega
  generalize PB (xs.take i)=T at *
  generalize xs[i].2.length=nl at *
  clear hv nH;go_wp2
  go_roundw
  case rel=>exact ⟨i+1,ag,by go_num,by rw [HT.out],by first | rfl | trivial⟩
  case measure=>simp [intOf];omega
 obtain rfl:i=xs.length:=by omega
 rw [QM]
 rename World=>w0
 have CG:=Gd (PB xs) (by omega) w0;have qK:=P4 ht
 go_upto_region 10 with (first | (go_at_call 105;(with_reducible refine Pe CG ?_);rintro e' w1 ⟨v1,rfl,hown1,hb1⟩))
 have ng:=Qh hown1 hb1;clear hown1 hb1 CG;obtain ⟨i0,d7,c8,bK,bJ⟩:=info_parts Tryz.info109;go_wp2
 go_loopw [6,27] (λnv iv wr=>∃i:Nat,i<=xs.length/\iv= .int .i64 i/\Hid (wr.ownsRow w0.heap.size 109 1 nv (PB (xs.take i)) ((xs.take i).flatMap (·.2))/\Below w0.heap.size w0 wr)) (λ_ iv _=>xs.length-(intOf iv).toNat)
 case atStart=>exact ⟨0,by omega,by go_num,ng.out⟩
 obtain ⟨i,hi,rfl,HO⟩:=hrel;by_cases ag:i<xs.length
 ·have hsz:w0.heap.size<=wr.heap.size:=HO.2.size;have q:=(HO.2.cell (p:=⟨A,i,none⟩) hA).trans (gL.out i ag);obtain ⟨tT,bq⟩:=HV.out xs[i] (Px ag);have tT:=tT.on (OZ.of HO.2 HS.out);have i1:(0:Int)<=(i:Int):=by omega
  have i2:(i:Int)<(xs.length:Int):=by omega
  have nH:=OM xs i ag;have iC:=Od xs (i+1);have aY:(xs.take (i+1)).flatMap (·.2)=(xs.take i).flatMap (·.2)++xs[i].2:=by
   rw [S1,PR ag,WW];simp
  have HF:Hid (∀(v':Value) (w':World),w'.ownsRow w0.heap.size 109 1 v' (PB (xs.take i)+xs[i].2.length) ((xs.take i).flatMap (·.2)++xs[i].2)->w'.ownsRow w0.heap.size 109 1 v' (PB (xs.take (i+1))) ((xs.take (i+1)).flatMap (·.2))):=λv' w' h=>by rw [nH,aY];exact h
  have hown:=HO.1;rcases tT with ⟨h0,ad,cap,hv⟩ | ⟨g,o,cap,hv,h0,aM,bn⟩
  ·rw [hv] at q;have hr:=OU (t:=72) (ty:=72) Tryz.underlying72 d7 hown ad cap;have HE:=HF.out u6 wr (by rw [h0];simpa using hown);have HE:=P4 HE;clear hv nH iC aY hown h0 bq
   go_wp2_with (at_builtin;refine Lib.wpList_append_run _ rfl _ _ 72 72 rfl _ _ rfl rfl _ _ hr ?_)
   go_roundw
   case rel=>exact ⟨i+1,ag,by go_num,HE.out,HO.2⟩
   case measure=>simp [intOf];omega
  rw [hv] at q;have dw:∀j u,xs[i].2[j]? =some u->wr.cell? ((⟨g,o,none⟩:Addr).add j)=some u:=λj u hu=>by
   have hj:j<xs[i].2.length:=(Tt.1 hu).1;have:=(bn j hj).2;rw [PR hj] at hu;rw [<-hu,<-this]
   congr 1
   unfold Addr.add;split
   ·rename_i e;rw [e]
    rfl
   show (⟨g,o+j,none⟩:Addr)=⟨g,o+j*1,none⟩;rw [R4]
  have hbig:PB (xs.take i)+xs[i].2.length<=100000:=by have:=qK.out;omega
  have nI:=P4 bq;clear hv nH iC aY bq bn
  go_wp2_with (at_builtin;refine wpList_append_own _ rfl _ _ 72 rfl w0.heap.size 109 i0 _ 1 8 Tryz.underlying72 d7 c8 bK bJ rfl (by decide) _ _ _ rfl hown ⟨g,o,none⟩ xs[i].2.length cap xs[i].2 rfl (by rw [R4]) dw nI.out (by unfold maxLen;omega) (by omega) hsz ?_;intro v3 w3 aU ja _)
  have HE:Hid (w3.ownsRow w0.heap.size 109 1 v3 (PB (xs.take (i+1))) ((xs.take (i+1)).flatMap (·.2))/\Below w0.heap.size w0 w3):=⟨HF.out v3 w3 aU,HO.2.grown ja hsz (λk e=>(HO.1.lt k e).1)⟩;clear aU ja hown dw;go_wp2
  go_roundw
  case rel=>exact ⟨i+1,ag,by go_num,HE.out⟩
  case measure=>simp [intOf];omega
 obtain rfl:i=xs.length:=by omega
 have HE:Hid (wr.ownsRow w0.heap.size 109 1 u6 (PB xs) (xs.flatMap (·.2))/\Below w0.heap.size w0 wr):=by
  have:=HO.out
  rwa [QM] at this
 go_wp2;go_ret;exact ⟨_,rfl,HE.out⟩
section
variable {w:World}{S:Nat->Prop}{l:List Value}{n cap:Nat}
theorem WG (l m:List Value)(ad bd:Option Addr)(cap cy:Nat)(S:Nat->Prop)(w:World)(hS:∀b,S b->b<w.heap.size)(h1:Rt w S (.slice ad l.length cap) l)(h2:Rt w S (.slice bd m.length cy) m)(o1:∀u∈l,u.oneCell'=true)(o2:∀u∈m,u.oneCell'=true)(hb:l.length+m.length<=100000):
  Calls Tryz.prog 75 #[.slice ad l.length cap,.slice bd m.length cy] w λr w'=>∃v,r= .returned v/\w'.ownsRow w.heap.size 3 1 v (l.length+m.length) (l++m)/\Below w.heap.size w w':=by
 have hW:∃W,W=w.alloc (Obj.cells #[.slice ad l.length cap,.slice bd m.length cy] 26)/\Below w.heap.size w W/\W.heap.size=w.heap.size+1/\W.cell? ⟨w.heap.size,0,none⟩=some (.slice ad l.length cap)/\W.cell? ⟨w.heap.size,1,none⟩=some (.slice bd m.length cy):=⟨_,rfl,(Pb _ _).alloc (P6 _) _,by simp,P0 (Qn w _) rfl,P0 (Qn w _) rfl⟩;obtain ⟨W,hW,an,aO,d0,d1⟩:=hW;have hk:OZ S w W:=OZ.of an hS;have CC:=KT [(.slice ad l.length cap,l),(.slice bd m.length cy,m)] w.heap.size S W (λb hb=>by have:=hS b hb;omega) (by omega) (λi h=>by
  match i,h with
  | 0,_=>exact d0
  | 1,_=>exact d1) (λx hx=>by
  simp only [Qa,Sf,Si] at hx;rcases hx with rfl | rfl
  ·exact ⟨h1.on hk,o1⟩
  exact ⟨h2.on hk,o2⟩) (by simp) (by simp [PB];omega)
 have ht:PB [(Value.slice ad l.length cap,l),(.slice bd m.length cy,m)]=l.length+m.length:=by simp [PB]
 have hf: [(Value.slice ad l.length cap,l),(.slice bd m.length cy,m)].flatMap (·.2)=l++m:=by simp
 rw [ht,hf] at CC;have HB:=Qh an aO;clear ht hf hk d0 d1 an aO h1 h2 hS;go_enter Tryz.func75,Tryz.ntmps75
 go_wp2_with (go_at_call 93;rw [<-hW];(with_reducible refine Pe CC ?_);rintro e' w1 ⟨v,rfl,hown,hb1⟩)
 go_ret;refine ⟨v,rfl,?_,HB.1.trans (hb1.mono HB.1.size)⟩;exact ⟨hown.1,hown.2.imp_right λ⟨g,cap,cur,e1,e2,e3⟩=>⟨g,cap,cur,e1,by have:=HB.2;omega,e3⟩⟩
theorem KM {ad:Option Addr}(h:Rt w S (.slice ad l.length cap) l)(hn:n<=l.length):Rt w S (.slice ad n cap) (l.take n):=by
 have hl:(l.take n).length=n:=by simp;omega
 by_cases h0:n=0
 ·subst h0;exact .inl ⟨by simp,ad,cap,rfl⟩
 rcases h with ⟨rfl,_⟩ | ⟨g,o,c,e,h1,h2,h3⟩
 ·simp at hn;omega
 obtain ⟨rfl,rfl⟩:ad=some ⟨g,o,none⟩/\cap=c:=by simpa using e
 refine .inr ⟨g,o,cap,by rw [hl],by intro e;rw [e] at hl;simp at hl;omega,by omega,λj hj=> ?_⟩;rw [Gp];exact h3 j (by omega)
theorem CU {g o m:Nat}(h:Rt w S (.slice (some ⟨g,o,none⟩) l.length cap) l)(hn:n<=l.length)(hm:m=l.length-n):Rt w S (.slice (some ⟨g,o+n,none⟩) m (cap-n)) (l.drop n):=by
 have hl:(l.drop n).length=m:=by simp;omega
 by_cases h0:m=0
 ·subst h0;exact .inl ⟨Up.1 hl,_,_,rfl⟩
 rcases h with ⟨rfl,_⟩ | ⟨g',o',c,e,h1,h2,h3⟩
 ·simp at hn hm;omega
 obtain ⟨⟨rfl,rfl⟩,rfl⟩:(g=g'/\o=o')/\cap=c:=by simpa using e
 refine .inr ⟨g,o+n,cap-n,by rw [hl],by intro e;rw [e] at hl;simp at hl;omega,by omega,λj hj=> ?_⟩;rw [List.getElem_drop,show o+n+j*1=o+(n+j)*1 by omega];exact h3 (n+j) (by omega)
theorem Nh (l m:List Value)(at':Nat)(g o:Nat)(bd:Option Addr)(cap cy:Nat)(S:Nat->Prop)(w:World)(hS:∀b,S b->b<w.heap.size)(h1:Rt w S (.slice (some ⟨g,o,none⟩) l.length cap) l)(aM:l.length<=cap)(h2:Rt w S (.slice bd m.length cy) m)(o1:∀u∈l,u.oneCell'=true)(o2:∀u∈m,u.oneCell'=true)(hb:l.length+m.length<=100000)(ha:at'<l.length):
  Calls Tryz.prog 95 #[.slice (some ⟨g,o,none⟩) l.length cap,.int .i64 at',.slice bd m.length cy] w λr w'=>∃v,r= .returned v/\w'.ownsRow w.heap.size 3 1 v (at'+m.length+(l.length-(at'+1))) (l.take at'++m++l.drop (at'+1))/\Below w.heap.size w w':=by
 obtain ⟨n3,hn3⟩:∃n3,l.length-(at'+1)=n3:=⟨_,rfl⟩;rw [hn3];have v1:=KM (n:=at') h1 (by omega);obtain ⟨A3,nJ⟩:∃A3,A3=(if cap=at'+1 then some (⟨g,o,none⟩:Addr) else some ⟨g,o+(at'+1),none⟩):=⟨_,rfl⟩;have v3:Rt w S (.slice A3 n3 (cap-(at'+1))) (l.drop (at'+1)):=by
  by_cases hc:cap=at'+1
  ·obtain rfl:n3=0:=by omega
   exact .inl ⟨Up.1 (by simp;omega),_,_,rfl⟩
  rw [nJ,P7 hc];exact CU (n:=at'+1) (m:=n3) h1 (by omega) hn3.symm
 have hW:∃W,W=w.alloc (Obj.cells #[.slice (some ⟨g,o,none⟩) at' cap,.slice bd m.length cy,.slice A3 n3 (cap-(at'+1))] 26)/\Below w.heap.size w W/\W.heap.size=w.heap.size+1/\W.cell? ⟨w.heap.size,0,none⟩=some (.slice (some ⟨g,o,none⟩) at' cap)/\W.cell? ⟨w.heap.size,1,none⟩=some (.slice bd m.length cy)/\W.cell? ⟨w.heap.size,2,none⟩=some (.slice A3 n3 (cap-(at'+1))):=⟨_,rfl,(Pb _ _).alloc (P6 _) _,by simp,P0 (Qn w _) rfl,P0 (Qn w _) rfl,P0 (Qn w _) rfl⟩;obtain ⟨W,hW,an,aO,d0,d1,d2⟩:=hW;have hk:OZ S w W.drew:=λb hb=>an.block b (hS b hb);have CC:=KT [(.slice (some ⟨g,o,none⟩) at' cap,l.take at'),(.slice bd m.length cy,m),(.slice A3 n3 (cap-(at'+1)),l.drop (at'+1))] w.heap.size S W.drew (λb hb=>by have:=hS b hb;show b<W.heap.size;omega) (by show w.heap.size<W.heap.size;omega) (λi h=>by
  match i,h with
  | 0,_=>exact d0
  | 1,_=>exact d1
  | 2,_=>exact d2) (λx hx=>by
  simp only [Qa,Sf,Si] at hx;rcases hx with rfl | rfl | rfl
  ·exact ⟨v1.on hk,λu hu=>o1 u (Sa hu)⟩
  ·exact ⟨h2.on hk,o2⟩
  exact ⟨v3.on hk,λu hu=>o1 u (Sn hu)⟩) (by simp) (by simp [PB];omega)
 have ht:PB [(Value.slice (some ⟨g,o,none⟩) at' cap,l.take at'),(.slice bd m.length cy,m),(.slice A3 n3 (cap-(at'+1)),l.drop (at'+1))]=at'+m.length+n3:=by simp [PB];omega
 have hf: [(Value.slice (some ⟨g,o,none⟩) at' cap,l.take at'),(.slice bd m.length cy,m),(.slice A3 n3 (cap-(at'+1)),l.drop (at'+1))].flatMap (·.2)=l.take at'++m++l.drop (at'+1):=by simp
 rw [ht,hf] at CC;have HB:=Qh an aO;have b1:(0:Int)<=(at':Int):=by omega
 have b2:(at':Int)<=(cap:Int):=by omega
 have b3:IntKind.i64.wrap ((at':Int)+1)=(at':Int)+1:=by rw [RV];omega
 have b4:(at':Int)+1<=(l.length:Int):=by omega
 have b5:(0:Int)<=(at':Int)+1:=by omega
 clear ht hf hk d0 d1 d2 an aO h1 h2 hS v1 v3;by_cases hc:cap=at'+1
 all_goals
  first
  | (
   rw [Pc hc] at nJ;subst nJ;have bu6:(cap=at'+1)=True:=eq_true hc;clear hc)
  | (
   rw [P7 hc] at nJ;subst nJ)
 all_goals
  go_enter Tryz.func95,Tryz.ntmps95;go_wp2
  go_region_held3 (λ_=>True) (first | trivial | assumption) (first | (go_at_call 93;rw [<-hW];(with_reducible refine Pe CC ?_);rintro e' w1 ⟨v,rfl,hown,hb1⟩))
  all_goals
   go_wp2;go_ret;refine ⟨v,rfl,?_,HB.1.trans ⟨hb1.os,hb1.tape,hb1.output,hb1.size,λk hk=>hb1.block k (PQ hk HB.1.size)⟩⟩;exact ⟨hown.1,hown.2.imp_right λ⟨g,cap,cur,e1,e2,e3⟩=>⟨g,cap,cur,e1,PZ HB.1.size e2,e3⟩⟩
end
section
variable {w:World}{S:Nat->Prop}{v:Value}{l:List Nat}
theorem nq0 (v:Value)(l:List Nat)(x:Nat)(h:Pv w S v l)(hl:l.length<=1000)(hs:l.Pairwise (· < ·)):
  Calls Tryz.prog 92 #[v,.int .i64 x] w λr w'=>r= .returned (.tuple #[.int .i64 (l.countP (· <x):Nat),.bool (l.contains x)])/\∃q,w'=w.drewN q:=by
 rcases h with ⟨rfl,ad,cap,rfl⟩ | ⟨g,o,cap,rfl,_,hc,hj⟩
 ·have:=Any.slices_BinarySearch_int_empty (P:=Tryz.prog) Tryz.laysNm225 ad cap (x:Int) w
  change Calls Tryz.prog 92 _ _ _ at this
  exact this.mono λ_ _ ⟨h1,h2⟩=>⟨by rw [h1];simp,0,h2⟩
 have hz:(l.map (λ(n:Nat)=>(n:Int))).take l.length=l.map λ(n:Nat)=>(n:Int):=Xi (by simp);have:=Any.slices_BinarySearch_int (P:=Tryz.prog) Tryz.laysNm225 g o l.length cap (l.map λ(n:Nat)=>(n:Int)) (x:Int) w (by simp) (by omega) (λj aJ=>by
  have cO:j<l.length:=by simpa using aJ
  have h1:=(hj j cO).2;rw [R4] at h1;rw [h1];simp [List.getD,cO]) (by
  rw [hz,Yu];exact hs.imp λh=>by omega)
 change Calls Tryz.prog 92 _ _ _ at this
 refine this.mono λ_ _ ⟨h1,h2⟩=>⟨?_,h2⟩;have pN:(l.map λ(n:Nat)=>(n:Int)).countP (· <(x:Int))=l.countP (· <x):=by
  rw [List.countP_map];refine List.countP_congr λn _=> ?_;simp
 have hc2:(l.map λ(n:Nat)=>(n:Int)).contains (x:Int)=l.contains x:=by
  rw [Nv,Zb,Zb,PI];constructor
  ·rintro ⟨a,ha,e⟩;have:a=x:=by omega
   rw [<-this];exact ha
  exact λh=>⟨x,h,rfl⟩
 rw [h1,hz,pN,hc2]
theorem nr0 (h:Pv w S v l):Rt w S v (l.map λ(n:Nat)=>Value.int .i64 n):=Pd.map (λ(n:Nat)=>Value.int .i64 n) (λ_ _ _ h=>h) h
theorem ns0 {W:World}{base:Nat}{n:Nat}(h:W.ownsRow base 3 1 v n (l.map λ(n:Nat)=>Value.int .i64 n)):n=l.length/\Pv W (λb=>base<=b/\b<W.heap.size) v l:=by
 have hn:n=l.length:=by have:=h.1;simp at this;omega
 subst hn;refine ⟨rfl,?_⟩;have h2:W.ownsRow base 3 1 v l.length (l.flatMap λ(n:Nat)=> [Value.int .i64 n]):=by
  rw [<-List.map_eq_flatMap];exact h
 exact (Zq h2 (λ_ _=>rfl)).mono λg o x _ ⟨⟨_,e1,e2⟩,e3⟩=>⟨⟨e1,e2⟩,e3 0 (by omega)⟩
theorem nt0:∀(l:List Nat) (x:Nat),l.Pairwise (· < ·)->x∈l->l.countP (· <x)<l.length/\l.take (l.countP (· <x))++l.drop (l.countP (· <x)+1)=l.filter (λr=>r !=x)
 | [],x,_,h=>by simp at h
 | a::r,x,hp,h=>by
  rw [U5] at hp;by_cases e:a=x
  ·subst e;have h0:r.countP (· <a)=0:=by
    rw [List.countP_eq_zero];intro b hb;have:=hp.1 b hb;simp;omega
   have h1:(a::r).countP (· <a)=0:=by rw [List.countP_cons,h0];simp
   rw [h1];refine ⟨by simp,?_⟩;have h2:r.filter (λb=>b !=a)=r:=Oo.2 λb hb=>by have:=hp.1 b hb;simp;omega
   simp [h2]
  have hx:x∈r:=by rcases Qa.1 h with h | h;exact absurd h.symm e;exact h
  obtain ⟨h1,h2⟩:=nt0 r x hp.2 hx;have ha:a<x:=hp.1 x hx;have h3:(a::r).countP (· <x)=r.countP (· <x)+1:=by rw [List.countP_cons];simp [ha]
  rw [h3];refine ⟨by simp;omega,?_⟩;rw [JJ,List.drop_succ_cons,TY,h2,X0 (by simpa using e)]
theorem ud1 (rows:List Nat)(l:List Sp)(i:Nat)(h:i<l.length):QE rows (l.take (i+1))=(QE rows (l.take i)).filter (λr=>r !=l[i].1):=by
 unfold QE;rw [List.filter_filter,S1,PR h];refine NA λr _=> ?_;simp only [M3,N8,List.any_cons,List.any_nil,Bool.or_false,Bool.not_or];rw [Bool.and_comm]
 congr 1
 show (!(l[i].1==r))= !(r==l[i].1);rw [Bool.beq_comm]
theorem nu0 (rv sv:Value)(rows:List Nat)(af:List Sp)(hS:∀b,S b->b<w.heap.size)(hr:Pv w S rv rows)(hp:Q3 w S sv af)(hl:rows.length<=200)(hb:af.length<=200)(hs:rows.Pairwise (· < ·))(bh:∀s∈af,s.1∈rows)(hnd:(af.map (·.1)).Nodup):
  Calls Tryz.prog 77 #[rv,sv] w λr w'=>Below w.heap.size w w'/\∃v,r= .returned v/\Pv w' (λb=>S b\/(w.heap.size<=b/\b<w'.heap.size)) v (QE rows af):=by
 obtain ⟨L,hL,ay,dV⟩:=hp.list;have aA:L.length<=200:=by rw [<-hL,Qb] at hb;exact hb
 have HS:=P4 hS;have br:Hid (∀i (h:i<L.length),L[i].1∈QE rows (af.take i)):=λi h=>by
  have hi:i<af.length:=by rw [<-hL,Qb];exact h
  have e:af[i].1=L[i].1:=by simp only [<-hL,R7];rfl
  unfold QE;rw [Sq];refine ⟨by rw [<-e];exact bh _ (Px hi),?_⟩;rw [Bool.not_eq_true',OQ];intro s jK hc;obtain ⟨j,hj,rfl⟩:=RO jK;rw [Gp] at hc;have eX:j<i:=by rw [RW] at hj;omega
  have hc:af[j].1=L[i].1:=by simpa using hc
  rw [<-e] at hc;have yG:=NS.1 hnd j i (by simp;omega) (by simpa using hi) eX;simp only [R7] at yG;exact yG hc
 have bu:Hid (∀i (h:i<L.length),QE rows (af.take (i+1))=(QE rows (af.take i)).filter (λr=>r !=L[i].1)):=λi h=>by
  have hi:i<af.length:=by rw [<-hL,Qb];exact h
  have e:af[i].1=L[i].1:=by simp only [<-hL,R7];rfl
  rw [ud1 rows af i hi,e]
 have bn2:Hid (∀i,(QE rows (af.take i)).Pairwise (· < ·)/\(QE rows (af.take i)).length<=200):=λi=>⟨hs.filter _,PZ (T8 _ _) hl⟩;have HE:Hid (QE rows (af.take L.length)=QE rows af):=by
  show _=_;rw [show L.length=af.length by rw [<-hL,Qb],QM]
 have H0:Hid (Pv w (λb=>S b\/(w.heap.size<=b/\b<w.heap.size)) rv (QE rows (af.take 0))):=by
  have:QE rows (af.take 0)=rows:=by simp [QE]
  rw [this];exact hr.up λb hb=> .inl hb
 obtain ⟨ad,cap,rfl,bW⟩:=ay.open;have bR:=P4 bW;clear ay bW dV hS hL hb hp hr hs bh hnd hl;go_enter Tryz.func77,Tryz.ntmps77;go_wp2
 go_loopw [0,11] (λnv iv wr=>∃i:Nat,i<=L.length/\iv= .int .i64 i/\Hid (Pv wr (λb=>S b\/(w.heap.size<=b/\b<wr.heap.size)) nv (QE rows (af.take i))/\Below w.heap.size w wr)) (λ_ iv _=>L.length-(intOf iv).toNat)
 case atStart=>exact ⟨0,by omega,by go_num,H0.out,Pb _ _⟩
 obtain ⟨i,hi,rfl,HO⟩:=hrel;by_cases ag:i<L.length
 ·obtain ⟨g,o,rfl,hc,hr⟩:=bR.out (λe=>by rw [e] at ag;simp at ag);obtain ⟨s0,q1,q2⟩:=hr i ag;have hk:=OZ.of HO.2 HS.out;have q1:=(hk.cell (p:=⟨g,o+i*2,none⟩) s0).trans q1;have q2:=(hk.cell (p:=⟨g,o+i*2+1,none⟩) s0).trans q2;have hsz:=HO.2.size;have i1:(0:Int)<=(i:Int):=by omega
  have i2:(i:Int)<(L.length:Int):=by omega
  go_upto_region 4 with fail
  have aD:∃W1,W1=wr.alloc (Obj.cells #[.int .i64 L[i].1,.pointer (some ⟨L[i].2.1,L[i].2.2.1,none⟩)] 134)/\Below wr.heap.size wr W1/\W1.heap.size=wr.heap.size+1/\W1.cell? ⟨wr.heap.size,0,none⟩=some (.int .i64 L[i].1):=⟨_,rfl,(Pb _ _).alloc (P6 _) _,by simp,P0 (Qn wr _) rfl⟩;obtain ⟨W1,aD,hb1,bH,x0⟩:=aD;rw [<-aD];clear aD;have hT:∀b,(S b\/(w.heap.size<=b/\b<wr.heap.size))->b<wr.heap.size:=λb hb=>by
   rcases hb with hb | hb
   ·have:=HS.out b hb;omega
   exact hb.2
  have yH:=HO.1.on (OZ.of hb1 hT);have bh:=br.out i ag;have Ds:=bn2.out i;have eo:=bu.out i ag;obtain ⟨c1,c2⟩:=nt0 _ _ Ds.1 bh;have CB:=nq0 u0 _ L[i].1 yH (by omega) Ds.1;obtain ⟨na,nc,wf,GY⟩:=yH.open;obtain ⟨gg,go,bp3,iY,_⟩:=GY (λe=>by rw [e] at bh;simp at bh);subst bp3;rw [wf] at CB yH;have CC:∀q,Calls Tryz.prog 95 #[.slice (some ⟨gg,go,none⟩) (QE rows (af.take i)).length nc,.int .i64 ((QE rows (af.take i)).countP (· <L[i].1):Nat),.slice none 0 0] (W1.drewN q) λr w'=>∃v,r= .returned v/\Pv w' (λb=>W1.heap.size<=b/\b<w'.heap.size) v (QE rows (af.take (i+1)))/\Below W1.heap.size (W1.drewN q) w':=λq=>by
   have h1:=nr0 yH;have qL:OZ (λb=>S b\/(w.heap.size<=b/\b<wr.heap.size)) W1 (W1.drewN q):=λ_ _=>rfl;have h1:=h1.on qL;have:=Nh ((QE rows (af.take i)).map λ(n:Nat)=>Value.int .i64 n) [] ((QE rows (af.take i)).countP (· <L[i].1)) gg go none nc 0 _ (W1.drewN q) (λb hb=>by show b<W1.heap.size;have:=hT b hb;omega) (by rw [Qb];exact h1) (by rw [Qb];exact iY) (.inl ⟨rfl,none,0,rfl⟩) (by intro u hu;obtain ⟨n,_,rfl⟩:=PI.1 hu;rfl) (by simp) (by simp;omega) (by rw [Qb];exact c1);rw [Qb] at this;refine this.mono λr w' ⟨v,e1,e2,e3⟩=>⟨v,e1,?_,e3⟩;have e4:(((QE rows (af.take i)).map λ(n:Nat)=>Value.int .i64 n).take ((QE rows (af.take i)).countP (· <L[i].1))++[]++((QE rows (af.take i)).map λ(n:Nat)=>Value.int .i64 n).drop ((QE rows (af.take i)).countP (· <L[i].1)+1))=(QE rows (af.take (i+1))).map λ(n:Nat)=>Value.int .i64 n:=by
    rw [SH,<-NU,<-J3,<-R6,c2,eo]
   rw [e4] at e2;exact (ns0 e2).2
  have GZ:u0= .slice (some ⟨gg,go,none⟩) (QE rows (af.take i)).length nc:=wf;have bI:=Qh hb1 bH;rename_i ce3;clear ce3;clear wf bH hb1 yH q1 q2 hk hr bh Ds eo c1 c2 hT GY iY;generalize (QE rows (af.take i)).length=rl at CB CC GZ;generalize ((QE rows (af.take i)).countP (· <L[i].1))=rc at CB CC;generalize (QE rows (af.take i)).contains L[i].1=rb at CB;subst GZ
  go_wp2_with (first | (go_at_call 92;(with_reducible refine Pe CB ?_);rintro e' w2 ⟨rfl,q,rfl⟩) | (go_at_call 95;(with_reducible refine Pe (CC _) ?_);rintro e' w3 ⟨v3,rfl,hn3,hb3⟩))
  have HN:Hid (Pv w3 (λb=>S b\/(w.heap.size<=b/\b<w3.heap.size)) v3 (QE rows (af.take (i+1)))/\Below w.heap.size w w3):=by
   have h1:=bI.2;refine ⟨hn3.up λb hb=> .inr ⟨by omega,hb.2⟩,HO.2.trans ((bI.1.mono hsz).trans ⟨hb3.os,hb3.tape,hb3.output,hb3.size,λk hk=>hb3.block k (by omega)⟩)⟩
  clear hn3 hb3 CB CC;go_wp2
  go_roundw
  case rel=>exact ⟨i+1,ag,by go_num,HN.out⟩
  case measure=>simp [intOf];omega
 obtain rfl:i=L.length:=by omega
 have HQ:Hid (Pv wr (λb=>S b\/(w.heap.size<=b/\b<wr.heap.size)) u0 (QE rows af)):=by
  have:=HO.1
  rwa [HE.out] at this
 go_wp2;go_ret;exact ⟨HO.2,_,rfl,HQ.out⟩
end
theorem Yv {w:World}{S:Nat->Prop}(cb:Nat)(c:PM)(rv:Value)(rows:List Nat)(hS:∀b,S b->b<w.heap.size)(hc:QR w S cb c)(hr:Pv w S rv rows)(hl:rows.length<=200)(hb:c.2.2.length<=200)(hs:rows.Pairwise (· < ·)):
  Calls Tryz.prog 74 #[.pointer (some ⟨cb,0,none⟩),rv] w λr w'=>Below w.heap.size w w'/\∃v,r= .returned v/\Q3 w' (λb=>S b\/(w.heap.size<=b/\b<w'.heap.size)) v (PK c.2.2 rows):=by
 obtain ⟨hc0,_,_,⟨ad,cap,hsp,hp⟩,_⟩:=hc;generalize c.2.2=af at *
 obtain ⟨L,hL,ay,dV⟩:=hp.list;have mr:L.length=af.length:=by rw [<-hL,Qb]
 rw [<-mr] at hsp hb ay;have HS:=P4 hS;have bP:Hid (∀(a:Value) (w':World),Two w w.heap.size (L.filter λs=>rows.contains s.1) [] a (.slice none 0 0) w'->Below w.heap.size w w'/\∃v,Ending.returned a= .returned v/\Q3 w' (λb=>S b\/(w.heap.size<=b/\b<w'.heap.size)) v (PK af rows)):=λa w' h=>by
  have hk:OZ S w w':=OZ.of h.below hS;refine ⟨h.below,a,rfl,?_⟩;have:=(JY h.fst (λs hs=>(dV s (Sq.1 hs).1).on hk)).up (S':=λb=>S b\/(w.heap.size<=b/\b<w'.heap.size)) (λb hb=>hb.imp_right λe=>h.fst.lt b e);unfold PK;rw [<-hL,Jw];exact this
 have HR:=Ro hr hl hs;rcases ay.open with ⟨ad',cap',e,bW⟩;obtain ⟨rfl,rfl⟩:ad=ad'/\cap=cap':=by simpa using e
 have bR:=P4 bW;clear ay bW dV hS hL hp hr hs hl mr e hc0;go_enter Tryz.func74,Tryz.ntmps74;go_wp2
 go_loopw [5,15] (λav iv wr=>∃i:Nat,i<=L.length/\iv= .int .i64 i/\Hid (Two w w.heap.size ((L.take i).filter λs=>rows.contains s.1) [] av (.slice none 0 0) wr)) (λ_ iv _=>L.length-(intOf iv).toNat)
 case atStart=>exact ⟨0,by omega,by go_num,Two.start w _⟩
 obtain ⟨i,hi,rfl,HT⟩:=hrel;by_cases ag:i<L.length
 ·obtain ⟨g,o,rfl,hc,hr⟩:=bR.out (λe=>by rw [e] at ag;simp at ag);obtain ⟨s0,q1,q2⟩:=hr i ag;have hk:=OZ.of HT.below HS.out;have q1:=(hk.cell (p:=⟨g,o+i*2,none⟩) s0).trans q1;have q2:=(hk.cell (p:=⟨g,o+i*2+1,none⟩) s0).trans q2;have hsz:=HT.below.size;have i1:(0:Int)<=(i:Int):=by omega
  have i2:(i:Int)<(L.length:Int):=by omega
  go_upto_region 5 with fail
  have aD:∃W1,W1=wr.alloc (Obj.cells #[.int .i64 L[i].1,.pointer (some ⟨L[i].2.1,L[i].2.2.1,none⟩)] 134)/\Below wr.heap.size wr W1/\W1.heap.size=wr.heap.size+1/\W1.cell? ⟨wr.heap.size,0,none⟩=some (.int .i64 L[i].1)/\W1.cell? ⟨wr.heap.size,1,none⟩=some (.pointer (some ⟨L[i].2.1,L[i].2.2.1,none⟩)):=⟨_,rfl,(Pb _ _).alloc (P6 _) _,by simp,P0 (Qn wr _) rfl,P0 (Qn wr _) rfl⟩;obtain ⟨W1,aD,hb1,bH,x0,x1⟩:=aD;rw [<-aD];clear aD;have CB:=nq0 (w:=W1) rv rows L[i].1 ((HR.1.on hk).on (OZ.of hb1 λb hb=>by have:=HS.out b hb;omega)) (by have:=HR.2.1;omega) HR.2.2;have bI:=Qh hb1 bH;have hX:wr.heap.size<W1.heap.size:=by omega
  have HE:Hid ((L.take (i+1)).filter (λs=>rows.contains s.1)=(L.take i).filter (λs=>rows.contains s.1)++if rows.contains L[i].1 then [L[i]] else []):=Fu (λ(s:Sr)=>rows.contains s.1) L i ag;have eD:((L.take i).filter λs=>rows.contains s.1).length<=200:=PZ (T8 _ _) (by rw [RW];omega);obtain ⟨i0,d7,c8,bK,bJ⟩:=info_parts Tryz.info134';clear hk q1 q2 hr bH hb1;generalize rows.countP (· <L[i].1)=rc at CB;generalize rows.contains L[i].1=rb at CB HE;cases rb with
  | false=>
   have HQ:Hid ((L.take (i+1)).filter (λs=>rows.contains s.1)=(L.take i).filter (λs=>rows.contains s.1)):=by
    show _=_;rw [HE.out];simp
   go_wp2_with (first | (go_at_call 92;(with_reducible refine Pe CB ?_);rintro e' w2 ⟨rfl,q,rfl⟩))
   have en:Hid (Two w w.heap.size ((L.take (i+1)).filter λs=>rows.contains s.1) [] u5 (.slice none 0 0) (W1.drewN q)):=by
    show Two _ _ _ _ _ _ _;rw [HQ.out];exact (HT.on (P6 _) bI.1).on (P6 _) ⟨rfl,rfl,rfl,P6 _,λ_ _=>rfl⟩
   go_roundw
   case rel=>exact ⟨i+1,ag,by go_num,en.out⟩
   case measure=>simp [intOf];omega
  | true=>
   go_upto_region 7 with (first | (go_at_call 92;(with_reducible refine Pe CB ?_);rintro e' w2 ⟨rfl,q,rfl⟩))
   have fu:Hid (Two w w.heap.size ((L.take i).filter λs=>rows.contains s.1) [] u5 (.slice none 0 0) (W1.drewN q)):=(HT.on (P6 _) bI.1).on (P6 _) ⟨rfl,rfl,rfl,P6 _,λ_ _=>rfl⟩;have x0:(W1.drewN q).cell? ⟨wr.heap.size,0,none⟩=some (.int .i64 L[i].1):=x0;have x1:(W1.drewN q).cell? ⟨wr.heap.size,1,none⟩=some (.pointer (some ⟨L[i].2.1,L[i].2.2.1,none⟩)):=x1;have as3:w.heap.size<=(W1.drewN q).heap.size:=by have:=bI.2;show w.heap.size<=W1.heap.size;omega
   generalize W1.drewN q=W3 at *
   have aU:=fu.fst;generalize hA:(L.take i).filter (λs=>rows.contains s.1)=A at *
   clear hA CB HT
   go_wp2_with (at_builtin;refine wpList_append_lies _ rfl _ _ 110 rfl w.heap.size 134 i0 _ 2 16 Tryz.underlying110 d7 c8 bK bJ rfl (by decide) _ _ _ rfl (aU.alloc _) ⟨W3.heap.size,0,none⟩ 1 1 [.int .i64 L[i].1,.pointer (some ⟨L[i].2.1,L[i].2.2.1,none⟩)] rfl rfl (World.news_of_block (Qn W3 _)) (by intro u hu;simp at hu;rcases hu with rfl | rfl<;>rfl) (by omega) (by unfold maxLen;omega) (by omega) (by simp;omega) (W3.heap.size+1) (by simp) ?_;intro g' cap' W4 cI eE eF iD)
   have kW:=fu.put1 (s:=L[i]) (P6 _) cI eE eF (by omega);have k9:Hid (Two w w.heap.size ((L.take (i+1)).filter λs=>rows.contains s.1) [] (.slice (some ⟨g',0,none⟩) (A.length+1) cap') (.slice none 0 0) W4):=by
    show Two _ _ _ _ _ _ _;rw [HE.out];simpa using kW
   clear cI eE eF iD aU kW;go_wp2
   go_roundw
   case rel=>exact ⟨i+1,ag,by go_num,k9.out⟩
   case measure=>simp [intOf];omega
 obtain rfl:i=L.length:=by omega
 have en:Hid (Two w w.heap.size (L.filter λs=>rows.contains s.1) [] u5 (.slice none 0 0) wr):=by
  have:=HT.out
  rwa [QM] at this
 go_wp2;go_ret;exact bP.out _ _ en.out
section
variable {w:World}{S:Nat->Prop}{b:Nat}{k:Kn}
theorem Of (a b c:Int)(W:World):(Instr.field 100 (.agg #[.int .i64 a,.int .i64 b,.int .i64 c]) 0).run Tryz.prog W= .ok (.int .i64 a) W:=by
 rfl
theorem ue1 (fa:Option Addr)(fs:List Pu)(fc:Nat)(con:Qg)(hS:∀b,S b->b<w.heap.size)(hM:PP w b k)(hF:PH w S (.slice fa fs.length fc) fs)(jc:con.length<140737488355328)(bh:(O' k con).1<fs.length):
  Calls Tryz.prog 96 #[.agg #[.slice fa fs.length fc,.map (some b)],.string ⟨con.toArray⟩] w λr w'=>Below w.heap.size w w'/\∃ad cap ad' cap',r= .returned (.agg #[.slice ad fs[(O' k con).1].1.length cap,.slice ad' fs[(O' k con).1].2.length cap'])/\RE w' S (.slice ad fs[(O' k con).1].1.length cap) fs[(O' k con).1].1:=by
 rcases hF with ⟨h0,_⟩ | ⟨g,o,yJ,e,_,hc,hj⟩
 ·rw [h0] at bh;simp at bh
 obtain ⟨rfl,rfl⟩:fa=some ⟨g,o,none⟩/\fc=yJ:=by simpa using e
 obtain ⟨bo2,⟨ad,cap,c0,qM⟩,ad',cap',c1,_⟩:=hj (O' k con).1 bh;have hg:=hS _ bo2;have HE:Hid (∀w',Below w.heap.size w w'->RE w' S (.slice ad fs[(O' k con).1].1.length cap) fs[(O' k con).1].1):=λw' hb=>qM.on (OZ.of hb hS);generalize fs[(O' k con).1]=f at *
 have hW:∃W,W=(w.alloc (Obj.cells #[.slice (some ⟨g,o,none⟩) fs.length fc,.map (some b)] 69)).alloc (Obj.cells #[.slice none 0 0,.slice none 0 0] 48)/\Below w.heap.size w W/\W.heap.size=w.heap.size+2/\W.cell? ⟨w.heap.size,0,none⟩=some (.slice (some ⟨g,o,none⟩) fs.length fc)/\W.cell? ⟨w.heap.size,1,none⟩=some (.map (some b))/\W.heap[w.heap.size+1]? =some (.cells #[.slice none 0 0,.slice none 0 0] 48 (0,0)):=by
  refine ⟨_,rfl,((Pb _ _).alloc (P6 _) _).alloc (by simp) _,by simp,?_,?_,?_⟩
  ·exact P5 ((Qq _ _ _ (by simp)).trans (PF w _)) rfl
  ·exact P5 ((Qq _ _ _ (by simp)).trans (PF w _)) rfl
  have:=PF (w.alloc (Obj.cells #[.slice (some ⟨g,o,none⟩) fs.length fc,.map (some b)] 69)) (Obj.cells #[.slice none 0 0,.slice none 0 0] 48)
  rwa [show (w.alloc (Obj.cells #[.slice (some ⟨g,o,none⟩) fs.length fc,.map (some b)] 69)).heap.size=w.heap.size+1 by simp] at this
 obtain ⟨W,hW,an,aO,d0,d1,d2⟩:=hW;have c0:=(an.cell (p:=⟨g,o+(O' k con).1*2,none⟩) hg).trans c0;have c1:=(an.cell (p:=⟨g,o+(O' k con).1*2+1,none⟩) hg).trans c1;have pM:PP W b k:=hM.on (an.block b (Mv.lt hM));have hl:=pM.look1 con jc;unfold kV at hl;have e0:=P5 d2 (i:=0) rfl;have e1:=P5 d2 (i:=1) rfl;have z0:=Pp (o:=0) d2;have z1:=Pp (o:=1) d2;have ca7:(0:Int)<=((O' k con).1:Int):=by omega
 have sD:((O' k con).1:Int)<(fs.length:Int):=by omega
 have aY:=Of (O' k con).1 (O' k con).2.1 (O' k con).2.2 W;have HB:=Qh an aO;have hU:∃U,U=(W.setCell ⟨w.heap.size+1,0,none⟩ (.slice ad f.1.length cap)).setCell ⟨w.heap.size+1,1,none⟩ (.slice ad' f.2.length cap')/\Below w.heap.size w U/\U.cell? ⟨w.heap.size+1,0,none⟩=some (.slice ad f.1.length cap)/\U.cell? ⟨w.heap.size+1,1,none⟩=some (.slice ad' f.2.length cap'):=by
  have h1:=Q5 (i:=1) (v:= .slice ad' f.2.length cap') (Q5 (i:=0) (v:= .slice ad f.1.length cap) d2);exact ⟨_,rfl,(an.setCell (p:=⟨w.heap.size+1,0,none⟩) (by simp) _).setCell (p:=⟨w.heap.size+1,1,none⟩) (by simp) _,P5 h1 rfl,P5 h1 rfl⟩
 obtain ⟨U,hU,ii,s0,s1⟩:=hU;have nK:=P4 ii;generalize (O' k con).1=l1 at *
 generalize (O' k con).2.1=l2 at *
 generalize (O' k con).2.2=l3 at *
 clear hM pM hj qM an aO d2 hS e bh ii;go_enter Tryz.func96,Tryz.ntmps96
 go_upto_region 1 with fail
 rw [<-hW];clear hW;go_wp2;rw [<-hU];refine Qv (v:= .agg #[.slice ad f.1.length cap,.slice ad' f.2.length cap']) (by simp [results,Tryz.results96,go_sem,s0,s1]) rfl ?_;exact ⟨nK.out,ad,cap,ad',cap',rfl,HE.out _ nK.out⟩
theorem Yk (a:Option Addr)(b:Nat)(c:Option Addr)(d n m:Nat)(W:World):(Instr.field 48 (.agg #[.slice a n b,.slice c m d]) 0).run Tryz.prog W= .ok (.slice a n b) W:=by
 rfl
theorem WH (fa:Option Addr)(fs:List Pu)(fc:Nat)(blk cap:Nat)(cs:List Cs)(hS:∀b,S b->b<w.heap.size)(hM:PP w b k)(hF:PH w S (.slice fa fs.length fc) fs)(dS:blk<w.heap.size)(h0:0<cs.length)(c0:w.cell? ⟨blk,0,none⟩=some (.string ⟨cs[0].1.toArray⟩))(hn:(cs[0].1).length<140737488355328)(bh:cs[0].1≠[]->(O' k cs[0].1).1<fs.length)(bg:cs.length<=200):
  Calls Tryz.prog 78 #[.agg #[.slice fa fs.length fc,.map (some b)],.slice (some ⟨blk,0,none⟩) cs.length cap] w λr w'=>r= .returned (.bool (Ss k fs cs))/\Below w.heap.size w w':=by
 have hW:∃W,W=w.alloc (Obj.cells #[.slice fa fs.length fc,.map (some b)] 69)/\Below w.heap.size w W/\W.heap.size=w.heap.size+1/\W.cell? ⟨w.heap.size,0,none⟩=some (.slice fa fs.length fc)/\W.cell? ⟨w.heap.size,1,none⟩=some (.map (some b)):=⟨_,rfl,(Pb _ _).alloc (P6 _) _,by simp,P0 (Qn w _) rfl,P0 (Qn w _) rfl⟩;obtain ⟨W,hW,an,aO,d0,d1⟩:=hW;have c0:W.cell? ⟨blk,0,none⟩=some (.string ⟨cs[0].1.toArray⟩):=(an.cell (p:=⟨blk,0,none⟩) dS).trans c0;have HB:=Qh an aO;have z1:(0:Int)<(cs.length:Int):=by omega
 have cA:Ss k fs cs=(cs[0].1 !=[] && cs.length==(match fs[(O' k cs[0].1).1]? with | some f=>f.1.length | none=>0)):=by
  cases cs with
  | nil=>simp at h0
  | cons c r=>rfl
 rw [cA];by_cases he:cs[0].1=[]
 ·have e1:(⟨cs[0].1.toArray⟩:ByteArray).toList.isEmpty=true:=by rw [Y9,he];rfl
  have hR:(cs[0].1 !=[] && cs.length==(match fs[(O' k cs[0].1).1]? with | some f=>f.1.length | none=>0))=false:=by
   have:(cs[0].1 !=[])=false:=by simpa using he
   rw [this,Bool.false_and]
  rw [hR];clear hR;generalize (⟨cs[0].1.toArray⟩:ByteArray)=cb at *
  clear hM hF cA he bh hn an aO hS;go_enter Tryz.func78,Tryz.ntmps78
  go_upto_region 1 with fail
  rw [<-hW];clear hW
  go_region
  all_goals
   go_wp2;go_ret;exact ⟨rfl,HB.1.drew⟩
 have e1:(⟨cs[0].1.toArray⟩:ByteArray).toList.isEmpty=false:=by rw [Y9];simpa using he
 have hlt:=bh he;have CF:=λW' (hb:Below W.heap.size W W')=>ue1 (w:=W') fa fs fc cs[0].1 (λb aj=>by have:=hS b aj;have:=hb.size;omega) (hM.on ((hb.block b (by have:=Mv.lt hM;omega)).trans (an.block b (Mv.lt hM)))) ((hF.on (OZ.of an hS)).on (OZ.of hb λb aj=>by have:=hS b aj;omega)) hn hlt;rw [PR hlt];have am:(cs[0].1 !=[])=true:=by simpa using he
 rw [am,G1];generalize fs[(O' k cs[0].1).1]=f at *
 generalize (⟨cs[0].1.toArray⟩:ByteArray)=cb at *
 have hX:w.heap.size<W.heap.size/\blk<W.heap.size:=by omega
 have HR:Hid ((cs.length==f.1.length)=((cs.length:Int)==(f.1.length:Int))):=by
  show _=_;rw [Nv];simp;omega
 have yx:(match some f with | some f=>f.1.length | none=>0)=f.1.length:=rfl;rw [yx,HR.out];have nL:Hid (((cs.length:Int)==(f.1.length:Int))=((cs.length:Int)==(f.1.length:Int))):=rfl;generalize f.1.length=fn at *
 generalize f.2.length=fm at *
 have cl6:∀a b c d W',(Instr.field 48 (.agg #[.slice a fn b,.slice c fm d]) 0).run Tryz.prog W'= .ok (.slice a fn b) W':=λa b c d W'=>Yk a b c d fn fm W';clear hM hF cA he bh hn an aO hS am HR yx hlt;go_enter Tryz.func78,Tryz.ntmps78
 go_upto_region 1 with fail
 rw [<-hW];clear hW
 go_region_held3 (λw'=>w'.cell? ⟨w.heap.size,0,none⟩=some (.slice fa fs.length fc)/\w'.cell? ⟨w.heap.size,1,none⟩=some (.map (some b))/\w'.cell? ⟨blk,0,none⟩=some (.string cb)) (first | exact ⟨d0,d1,c0⟩ | assumption | (have hk:∀p:Addr,p.block<W.heap.size->w1.cell? p=W.cell? p:=λp hp=>hb1.cell hp;exact ⟨(hk _ hX.1).trans d0,(hk _ hX.1).trans d1,(hk _ hX.2).trans c0⟩) | go_keep)
  (first | (go_at_call 96;(with_reducible refine Pe (CF _ ?_) ?_);exact (Pb _ _).drew;rintro e' w1 ⟨hb1,ad1,cp1,ad2,cp2,rfl,_⟩))
 all_goals
  have aS:Hid (Below w.heap.size w w1):=HB.1.trans ⟨hb1.os,hb1.tape,hb1.output,hb1.size,λk hk=>hb1.block k (PQ hk HB.1.size)⟩;go_wp2;go_ret;exact ⟨rfl,aS.out⟩
end
theorem KP (l m:List Value)(at':Nat)(g o:Nat)(bd:Option Addr)(cap cy:Nat)(S:Nat->Prop)(w:World)(hS:∀b,S b->b<w.heap.size)(h1:Rt w S (.slice (some ⟨g,o,none⟩) l.length cap) l)(aM:l.length<=cap)(h2:Rt w S (.slice bd m.length cy) m)(o1:∀u∈l,u.oneCell'=true)(o2:∀u∈m,u.oneCell'=true)(hb:l.length+m.length<=100000)(ha:at'<l.length):
  Calls Tryz.prog 76 #[.slice (some ⟨g,o,none⟩) l.length cap,.int .i64 at',.slice bd m.length cy] w λr w'=>∃v,r= .returned v/\w'.ownsRow w.heap.size 109 1 v (at'+m.length+(l.length-(at'+1))) (l.take at'++m++l.drop (at'+1))/\Below w.heap.size w w':=by
 obtain ⟨n3,hn3⟩:∃n3,l.length-(at'+1)=n3:=⟨_,rfl⟩;rw [hn3];have v1:=KM (n:=at') h1 (by omega);obtain ⟨A3,nJ⟩:∃A3,A3=(if cap=at'+1 then some (⟨g,o,none⟩:Addr) else some ⟨g,o+(at'+1),none⟩):=⟨_,rfl⟩;have v3:Rt w S (.slice A3 n3 (cap-(at'+1))) (l.drop (at'+1)):=by
  by_cases hc:cap=at'+1
  ·obtain rfl:n3=0:=by omega
   exact .inl ⟨Up.1 (by simp;omega),_,_,rfl⟩
  rw [nJ,P7 hc];exact CU (n:=at'+1) (m:=n3) h1 (by omega) hn3.symm
 have hW:∃W,W=w.alloc (Obj.cells #[.slice (some ⟨g,o,none⟩) at' cap,.slice bd m.length cy,.slice A3 n3 (cap-(at'+1))] 72)/\Below w.heap.size w W/\W.heap.size=w.heap.size+1/\W.cell? ⟨w.heap.size,0,none⟩=some (.slice (some ⟨g,o,none⟩) at' cap)/\W.cell? ⟨w.heap.size,1,none⟩=some (.slice bd m.length cy)/\W.cell? ⟨w.heap.size,2,none⟩=some (.slice A3 n3 (cap-(at'+1))):=⟨_,rfl,(Pb _ _).alloc (P6 _) _,by simp,P0 (Qn w _) rfl,P0 (Qn w _) rfl,P0 (Qn w _) rfl⟩;obtain ⟨W,hW,an,aO,d0,d1,d2⟩:=hW;have hk:OZ S w W.drew:=λb hb=>an.block b (hS b hb);have CC:=Xk [(.slice (some ⟨g,o,none⟩) at' cap,l.take at'),(.slice bd m.length cy,m),(.slice A3 n3 (cap-(at'+1)),l.drop (at'+1))] w.heap.size S W.drew (λb hb=>by have:=hS b hb;show b<W.heap.size;omega) (by show w.heap.size<W.heap.size;omega) (λi h=>by
  match i,h with
  | 0,_=>exact d0
  | 1,_=>exact d1
  | 2,_=>exact d2) (λx hx=>by
  simp only [Qa,Sf,Si] at hx;rcases hx with rfl | rfl | rfl
  ·exact ⟨v1.on hk,λu hu=>o1 u (Sa hu)⟩
  ·exact ⟨h2.on hk,o2⟩
  exact ⟨v3.on hk,λu hu=>o1 u (Sn hu)⟩) (by simp) (by simp [PB];omega)
 have ht:PB [(Value.slice (some ⟨g,o,none⟩) at' cap,l.take at'),(.slice bd m.length cy,m),(.slice A3 n3 (cap-(at'+1)),l.drop (at'+1))]=at'+m.length+n3:=by simp [PB];omega
 have hf: [(Value.slice (some ⟨g,o,none⟩) at' cap,l.take at'),(.slice bd m.length cy,m),(.slice A3 n3 (cap-(at'+1)),l.drop (at'+1))].flatMap (·.2)=l.take at'++m++l.drop (at'+1):=by simp
 rw [ht,hf] at CC;have HB:=Qh an aO;have b1:(0:Int)<=(at':Int):=by omega
 have b2:(at':Int)<=(cap:Int):=by omega
 have b3:IntKind.i64.wrap ((at':Int)+1)=(at':Int)+1:=by rw [RV];omega
 have b4:(at':Int)+1<=(l.length:Int):=by omega
 have b5:(0:Int)<=(at':Int)+1:=by omega
 clear ht hf hk d0 d1 d2 an aO h1 h2 hS v1 v3;by_cases hc:cap=at'+1
 all_goals
  first
  | (
   rw [Pc hc] at nJ;subst nJ;have bu6:(cap=at'+1)=True:=eq_true hc;clear hc)
  | (
   rw [P7 hc] at nJ;subst nJ)
 all_goals
  go_enter Tryz.func76,Tryz.ntmps76;go_wp2
  go_region_held3 (λ_=>True) (first | trivial | assumption) (first | (go_at_call 94;rw [<-hW];(with_reducible refine Pe CC ?_);rintro e' w1 ⟨v,rfl,hown,hb1⟩))
  all_goals
   go_wp2;go_ret;refine ⟨v,rfl,?_,HB.1.trans ⟨hb1.os,hb1.tape,hb1.output,hb1.size,λk hk=>hb1.block k (PQ hk HB.1.size)⟩⟩;exact ⟨hown.1,hown.2.imp_right λ⟨g,cap,cur,e1,e2,e3⟩=>⟨g,cap,cur,e1,PZ HB.1.size e2,e3⟩⟩
