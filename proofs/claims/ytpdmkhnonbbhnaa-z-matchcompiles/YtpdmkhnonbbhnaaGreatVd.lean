import Derived.Test.YtpdmkhnonbbhnaaGreatWi
import Derived.Deep.CutRange
namespace Go.Proofs.YtpdmkhnonbbhnaaGreat
open Go.RowKit Go.Maps
set_option maxHeartbeats 8000000
set_option maxRecDepth 10000
variable {k:Kn}{w wr W1:World}{fv:Value}{fs:List Pu}{i p:Nat}
theorem ae1 {x:Qg}{c:Nat×Nat×Nat}(hx:look k x=none)(y:Qg):look (k++[(x,c)]) y=if y=x then some c else look k y:=by
 unfold look at *
 rw [List.find?_append];by_cases h:y=x
 ·subst h;rw [Pc rfl];have:k.find? (λe=>e.1==y)=none:=by simpa using hx
  rw [this];simp
 rw [P7 h];have:List.find? (λe:Qg×Nat×Nat×Nat=>e.1==y) [(x,c)]=none:=by
  rw [Ni];have e:((x,c).1==y)=false:=by
   cases hb:(x==y) with
   | false=>rfl
   | true=>exact absurd (Us hb).symm h
  rw [e,List.find?_nil]
 rw [this];cases List.find? (λe:Qg×Nat×Nat×Nat=>e.1==y) k<;>rfl
theorem sa0 (k:Kn)(x:Qg):look k x=none↔¬∃e∈k,e.1=x:=by
 unfold look;rw [Option.map_eq_none_iff,Ec];constructor
 ·rintro h ⟨e,he,hx⟩;exact h e he (by rw [hx];simp)
 intro h e he hx;exact h ⟨e,he,Us hx⟩
theorem PP.put {b:Nat}(h:PP w b k)(x:Qg)(hx:x.length<140737488355328)(hm:k.length<100000)(hs:Go.Proofs.YtpdmkhnonbbhnaaGreat.look k x=none)(c:Nat×Nat×Nat):
  ∃w',(Instr.mapUpdate 67 (.map (some b)) (.string ⟨x.toArray⟩) (kV c)).run Tryz.prog w= .ok () w'/\PP w' b (k++[(x,c)])/\w.grownBy w' (some b):=by
 obtain ⟨w',h1,h2,h3⟩:=Mv.put h x hx hm (by rw [hs];rfl) (kV c);refine ⟨w',h1,?_,h3⟩;have e:(λn=>(Go.Proofs.YtpdmkhnonbbhnaaGreat.look (k++[(x,c)]) n).map kV)=(λy=>if y=x then some (kV c) else (Go.Proofs.YtpdmkhnonbbhnaaGreat.look k y).map kV):=by
  funext y
  rw [ae1 hs];by_cases hy:y=x
  ·rw [Pc hy,Pc hy];rfl
  rw [P7 hy,P7 hy]
 unfold PP;rw [e,QP];exact h2
structure Kw (w:World)(fv:Value)(k:Kn)(wr:World):Prop where
 below:Below w.heap.size w wr
 res:wr.heap[w.heap.size]? =some (.cells #[.slice none 0 0,.map none] 69 (0,0))
 kb:wr.heap[w.heap.size+1+1]? =some (.cells #[fv,.map (some (w.heap.size+1))] 69 (0,0))
 map:PP wr (w.heap.size+1) k
theorem Kw.lt (h:Kw w fv k wr):w.heap.size+1+1<wr.heap.size:=PV h.kb
theorem Kw.alloc (h:Kw w fv k wr)(o:Obj):Kw w fv k (wr.alloc o):=by
 have hl:=h.lt;have hb:Below wr.heap.size wr (wr.alloc o):=(Pb _ _).alloc (P6 _) _;exact ⟨h.below.trans (hb.mono h.below.size),(hb.block _ (by omega)).trans h.res,(hb.block _ (by omega)).trans h.kb,h.map.on (hb.block _ (by omega))⟩
theorem Kw.put (h:Kw w fv k wr)(x:Qg)(hx:x.length<140737488355328)(hm:k.length<100000)(hs:look k x=none)(c:Nat×Nat×Nat):
  ∃w',(Instr.mapUpdate 67 (.map (some (w.heap.size+1))) (.string ⟨x.toArray⟩) (kV c)).run Tryz.prog wr= .ok () w'/\Kw w fv (k++[(x,c)]) w'/\wr.grownBy w' (some (w.heap.size+1)):=by
 obtain ⟨w',h1,h2,h3⟩:=h.map.put x hx hm hs c;have hl:=h.lt;exact ⟨w',h1,⟨h.below.grown h3 h.below.size (λj e=>by cases e;omega),(h3.block _ (by omega) (by simp)).trans h.res,(h3.block _ (by omega) (by simp)).trans h.kb,h2⟩,h3⟩
theorem Kw.start (w:World)(fv:Value):Kw w fv [] (((w.alloc (.cells #[.slice none 0 0,.map none] 69)).alloc (.map #[] 0)).alloc (.cells #[fv,.map (some (w.heap.size+1))] 69)):=by
 have hA:Below w.heap.size w (w.alloc (.cells #[.slice none 0 0,.map none] 69)):=(Pb _ _).alloc (P6 _) _;refine ⟨((hA.alloc (by simp) _).alloc (by simp;omega) _),?_,?_,?_⟩
 ·rw [Qq _ _ _ (by simp;omega),Qq _ _ _ (by simp)];exact PF w _
 ·have:=PF ((w.alloc (.cells #[.slice none 0 0,.map none] 69)).alloc (.map #[] 0)) (.cells #[fv,.map (some (w.heap.size+1))] 69);simpa using this
 have:=Mv.made (w.alloc (.cells #[.slice none 0 0,.map none] 69));have e:(w.alloc (.cells #[.slice none 0 0,.map none] 69)).heap.size=w.heap.size+1:=by simp
 rw [e] at this;exact Mv.on this (Qq _ _ _ (by simp))
theorem Kw.ret (h:Kw w fv k wr)(v0 v1:Value):∃U,U=(wr.setCell ⟨w.heap.size,0,none⟩ v0).setCell ⟨w.heap.size,1,none⟩ v1/\U.heap[w.heap.size]? =some (.cells #[v0,v1] 69 (0,0))/\Below w.heap.size w U/\PP U (w.heap.size+1) k:=by
 have a0:=Q5 (i:=0) (v:=v0) h.res;have a1:=Q5 (i:=1) (v:=v1) a0;have e:(#[.slice none 0 0,.map none].setIfInBounds 0 v0).setIfInBounds 1 v1= #[v0,v1]:=rfl;rw [e] at a1;refine ⟨_,rfl,a1,(h.below.setCell (P6 _) _).setCell (P6 _) _,h.map.on ?_⟩;rw [PX _ _ _ _ (by show w.heap.size+1≠w.heap.size;omega),PX _ _ _ _ (by show w.heap.size+1≠w.heap.size;omega)]
theorem KB (i:Nat)(k:Kn)(fs:List Pu)(h:i<fs.length):Po i k (fs.drop i)=if fs[i].1.length=0\/24<fs[i].1.length\/fs[i].2.length≠fs[i].1.length then none else (Qt i k 0 fs[i].1 fs[i].2).bind λk'=>Po (i+1) k' (fs.drop (i+1)):=by
 rw [Ur h]
 rfl
theorem Lm (i:Nat)(k:Kn)(p:Nat)(ns:List Qg)(xs:List Int)(h:p<ns.length)(hx:p<xs.length):Qt i k p (ns.drop p) (xs.drop p)=if ns[p]=[]\/(∃e∈k,e.1=ns[p])\/xs[p]<0\/8<xs[p] then none else Qt i (k++[(ns[p],i,p,xs[p].toNat)]) (p+1) (ns.drop (p+1)) (xs.drop (p+1)):=by
 rw [Ur h,Ur hx]
 rfl
theorem af1 (w:World):(Instr.makeMap 67 none).run Tryz.prog w= .ok (.map (some w.heap.size)) (w.alloc (.map #[] 0)):=by
 simp [Instr.makeMap,go_sem]
def VR (w:World)(fv:Value)(fs:List Pu)(r:Ending)(w':World):Prop:=Below w.heap.size w w'/\((∃k b,Po 0 [] fs=some k/\r= .returned (.tuple #[.agg #[fv,.map (some b)],.bool true])/\w.heap.size<=b/\PP w' b k)\/(Po 0 [] fs=none/\r= .returned (.tuple #[.agg #[.slice none 0 0,.map none],.bool false])))
structure Kr (w:World)(fv:Value)(fs:List Pu)(i:Nat)(k:Kn)(wr:World):Prop where
 kw:Kw w fv k wr
 same:Po 0 [] fs=Po i k (fs.drop i)
 cnt:k.length+((fs.drop i).map λf=>f.1.length).sum<=10000
structure Kc (w:World)(fv:Value)(fs:List Pu)(i:Nat)(h:i<fs.length)(p:Nat)(k:Kn)(W1 wr:World):Prop where
 kw:Kw w fv k wr
 size:W1.heap.size<=wr.heap.size
 on:∀b,b<W1.heap.size->b≠w.heap.size+1->wr.heap[b]? =W1.heap[b]?
 same:Po 0 [] fs=(Qt i k p (fs[i].1.drop p) (fs[i].2.drop p)).bind λk'=>Po (i+1) k' (fs.drop (i+1))
 cnt:k.length+(fs[i].1.length-p)+((fs.drop (i+1)).map λf=>f.1.length).sum<=10000
theorem Kr.bad (h:Kr w fv fs i k wr)(hi:i<fs.length)(hb:fs[i].1.length=0\/24<fs[i].1.length\/fs[i].2.length≠fs[i].1.length):Po 0 [] fs=none:=by
 rw [h.same,KB i k fs hi,Pc hb]
theorem Kr.go (h:Kr w fv fs i k wr)(hi:i<fs.length)(hb:¬(fs[i].1.length=0\/24<fs[i].1.length\/fs[i].2.length≠fs[i].1.length)){W1:World}(hW:∃o,W1=wr.alloc o):Kc w fv fs i hi 0 k W1 W1:=by
 obtain ⟨o,rfl⟩:=hW;refine ⟨h.kw.alloc o,P6 _,λ_ _ _=>rfl,?_,?_⟩
 ·rw [h.same,KB i k fs hi,P7 hb]
  rfl
 have:=h.cnt;rw [Ur hi,Re,SO] at this;omega
theorem Kc.done {hi:i<fs.length}(h:Kc w fv fs i hi fs[i].1.length k W1 wr):Kr w fv fs (i+1) k wr:=by
 refine ⟨h.kw,?_,?_⟩
 ·rw [h.same,Yb (P6 _)]
  rfl
 have:=h.cnt;omega
theorem Kc.bad {hi:i<fs.length}(h:Kc w fv fs i hi p k W1 wr)(hp:p<fs[i].1.length)(hx:p<fs[i].2.length)(hb:fs[i].1[p]=[]\/(∃e∈k,e.1=fs[i].1[p])\/fs[i].2[p]<0\/8<fs[i].2[p]):Po 0 [] fs=none:=by
 rw [h.same,Lm i k p _ _ hp hx,Pc hb]
 rfl
theorem Kc.put {hi:i<fs.length}(h:Kc w fv fs i hi p k W1 wr)(hp:p<fs[i].1.length)(hx:p<fs[i].2.length)(hb:¬(fs[i].1[p]=[]\/(∃e∈k,e.1=fs[i].1[p])\/fs[i].2[p]<0\/8<fs[i].2[p]))(hn:fs[i].1[p].length<140737488355328){W2:World}(hW:∃o,W2=wr.alloc o):
  ∃w',(Instr.mapUpdate 67 (.map (some (w.heap.size+1))) (.string ⟨fs[i].1[p].toArray⟩) (.agg #[.int .i64 i,.int .i64 p,.int .i64 fs[i].2[p]])).run Tryz.prog W2= .ok () w'/\Kc w fv fs i hi (p+1) (k++[(fs[i].1[p],i,p,fs[i].2[p].toNat)]) W1 w':=by
 obtain ⟨o,rfl⟩:=hW;have hk:=h.kw.alloc o;have hs:look k fs[i].1[p]=none:=(sa0 _ _).2 λe=>hb (.inr (.inl e));have hc:=h.cnt;obtain ⟨w',h1,h2,h3⟩:=hk.put fs[i].1[p] hn (by omega) hs (i,p,fs[i].2[p].toNat);have e:kV (i,p,fs[i].2[p].toNat)= .agg #[.int .i64 i,.int .i64 p,.int .i64 fs[i].2[p]]:=by
  unfold kV;have h0:¬fs[i].2[p]<0:=λe=>hb (.inr (.inr (.inl e)));have:((fs[i].2[p].toNat:Nat):Int)=fs[i].2[p]:=Int.toNat_of_nonneg (Int.not_lt.1 h0);simp only [this]
 rw [e] at h1;have hl:=h.kw.lt;have hsz:=h.size;refine ⟨w',h1,h2,PZ hsz (PZ (by simp) h3.size),λb hb am=> ?_,?_,?_⟩
 ·rw [h3.block b (by simp;omega) (by simpa using am),Qq _ _ _ (by omega)];exact h.on b hb am
 ·rw [h.same,Lm i k p _ _ hp hx,P7 hb]
 rw [QP];simp only [List.length_singleton];omega
theorem ag1 {S:Nat->Prop}(fa:Option Addr)(fs:List Pu)(fc:Nat)(hS:∀b,S b->b<w.heap.size)(hF:PH w S (.slice fa fs.length fc) fs)(hl:fs.length<=100000)(A1:(fs.map λf=>f.1.length).sum<=10000):
  Calls Tryz.prog 27 #[.slice fa fs.length fc] w (VR w (.slice fa fs.length fc) fs):=by
 have hX:Kr w (.slice fa fs.length fc) fs 0 [] (((w.alloc (.cells #[.slice none 0 0,.map none] 69)).alloc (.map #[] 0)).alloc (.cells #[.slice fa fs.length fc,.map (some (w.heap.size+1))] 69)):=⟨Kw.start w _,rfl,by simpa using A1⟩;obtain ⟨_,_,ce,au⟩:=Pd.open hF;injection ce with ce _ ch;subst ce ch;have HS:=P4 hS;have HR:=P4 au;clear hF hS au A1;have ch6:=af1 (w.alloc (.cells #[.slice none 0 0,.map none] 69));go_enter Tryz.func27,Tryz.ntmps27
 go_upto_region 2 with fail
 clear ch6;obtain ⟨W,hW⟩:∃W,W=(((w.alloc (.cells #[.slice none 0 0,.map none] 69)).alloc (.map #[] 0)).alloc (.cells #[.slice fa fs.length fc,.map (some (w.heap.size+1))] 69)):=⟨_,rfl⟩;rw [<-hW] at hX⊢;have HX:=P4 hX;clear hW hX;go_wp2
 go_loopw [17] (λiv wr=>∃(i:Nat) (k:Kn),i<=fs.length/\iv= .int .i64 i/\Hid (Kr w (.slice fa fs.length fc) fs i k wr)) (λiv _=>fs.length-(intOf iv).toNat)
 case atStart=>exact ⟨0,[],by omega,by go_num,HX.out⟩
 obtain ⟨i,k,hi,rfl,HT⟩:=hrel;by_cases ag:i<fs.length
 ·obtain ⟨g,o,rfl,ap6,hr⟩:=HR.out (λe=>by rw [e] at ag;simp at ag);obtain ⟨s0,⟨ad,cap,c0,hN⟩,ad',cap',c1,hX⟩:=hr i ag;have hk:=OZ.of HT.kw.below HS.out;have c0:=(hk.cell (p:=⟨g,o+i*2,none⟩) s0).trans c0;have c1:=(hk.cell (p:=⟨g,o+i*2+1,none⟩) s0).trans c1;have aD:∃W1,W1=wr.alloc (Obj.cells #[.slice ad fs[i].1.length cap,.slice ad' fs[i].2.length cap'] 48)/\W1.heap.size=wr.heap.size+1/\W1.heap[wr.heap.size]? =some (.cells #[.slice ad fs[i].1.length cap,.slice ad' fs[i].2.length cap'] 48 (0,0)):=⟨_,rfl,by simp,Qn wr _⟩;obtain ⟨W1,aD,bH,hb1⟩:=aD;have jY:=HT.kw.alloc (Obj.cells #[.slice ad fs[i].1.length cap,.slice ad' fs[i].2.length cap'] 48);rw [<-aD] at jY;have i1:(0:Int)<=(i:Int):=by omega
  have i2:(i:Int)<(fs.length:Int):=by omega
  have x0:=P0 (i:=0) hb1 rfl;have x1:=P0 (i:=1) hb1 rfl;have bI:=Qh hb1 bH;have nx:=P4 jY;have ld:=P4 (OZ.of jY.below HS.out);have em:=Qh hN hX;have EN:=P4 aD
  go_upto_region 5 with fail
  rw [<-aD];clear aD c0 c1
  go_cut [40] from 22 to 40 (λv wc=>v= .bool (decide (fs[i].1.length=0\/24<fs[i].1.length\/fs[i].2.length≠fs[i].1.length))/\wc=W1)
  case first=>
   clear hr hk hN hX hb1 jY HT bI nx ld em EN bH;generalize fs[i].1.length=n at *
   generalize fs[i].2.length=n' at *
   by_cases hz:n=0
   ·subst hz;go_wp2;go_meet
    case rel=>exact ⟨by simp,rfl⟩
   have e0:((n:Int)==0)=false:=Y2.2 (by omega);by_cases zw:24<n
   ·have e1:decide ((24:Int)<n)=true:=by simp;omega
    have e3:Hid (Value.bool true= .bool (decide (n=0\/24<n\/n'≠n))):=by show _=_;simp [zw]
    clear zw;go_wp2;go_meet
    case rel=>exact ⟨e3.out,rfl⟩
   have e1:decide ((24:Int)<n)=false:=by simp;omega
   by_cases hn:n'=n
   ·subst hn;have e3:Hid (Value.bool false= .bool (decide (n'=0\/24<n'\/n'≠n'))):=by show _=_;simp [hz];omega
    clear zw;go_wp2;go_meet
    case rel=>exact ⟨e3.out,rfl⟩
   have e2:((n':Int) !=n)=true:=by simp;omega
   have e3:Hid (Value.bool true= .bool (decide (n=0\/24<n\/n'≠n))):=by show _=_;simp [hn]
   clear zw hn;go_wp2;go_meet
   case rel=>exact ⟨e3.out,rfl⟩
  obtain ⟨rfl,qq⟩:=hcut;obtain rfl:=qq.symm;clear x0 x1;by_cases dz:fs[i].1.length=0\/24<fs[i].1.length\/fs[i].2.length≠fs[i].1.length
  ·have HE:=P4 (HT.bad ag dz);obtain ⟨U,hU,aG,aZ,_⟩:=jY.ret (.slice none 0 0) (.map none);have y0:=P0 (i:=0) jY.res rfl;have y1:=P0 (i:=1) jY.res rfl;have z0:=Pp (o:=0) jY.res;have z1:=Pp (o:=1) jY.res;have eK:=P4 aZ;rw [T7 dz];clear hk hr hN hX bH hb1 jY aZ HT bI nx ld em dz;go_wp2;rw [<-hU];have u0:=P0 (i:=0) aG rfl;have u1:=P0 (i:=1) aG rfl;refine Qv (v:= .tuple #[.agg #[.slice none 0 0,.map none],.bool false]) (by simp [results,Tryz.results27,go_sem,u0,u1]) rfl ?_;exact ⟨eK.out,.inr ⟨HE.out,rfl⟩⟩
  have HC:Hid (Kc w (.slice (some ⟨g,o,none⟩) fs.length fc) fs i ag 0 k W1 W1):=HT.go ag dz ⟨_,EN.out⟩;have H':Hid (fs[i].2.length=fs[i].1.length/\fs[i].1.length<=24):=⟨by omega,by omega⟩;have bD:Hid (wr.heap.size<W1.heap.size/\wr.heap.size≠w.heap.size+1):=⟨by omega,by have:=HT.kw.lt;omega⟩;have x0:=P0 (i:=0) bI.1 rfl;rw [Ti dz];clear hk hr hN hX bH hb1 jY dz HX HT EN;generalize fL:fs[i].1.length=n at *
  generalize pJ:fs[i].2.length=n' at *
  have wx:=Qh fL pJ;clear fL pJ;go_wp2;clear x0;generalize bg7:wr.heap.size=Fb at *
  clear bg7
  go_loopw [45] (λpv wq=>∃(p:Nat) (k':Kn),p<=n/\pv= .int .i64 p/\Hid (Kc w (.slice (some ⟨g,o,none⟩) fs.length fc) fs i ag p k' W1 wq)) (λpv _=>n-(intOf pv).toNat)
  case atStart=>exact ⟨0,k,by omega,by go_num,HC.out⟩
  obtain ⟨p,k',hp,rfl,HP⟩:=hrel;by_cases bo:p<n
  ·have hp1:p<fs[i].1.length:=by have:=wx.out;omega
   have hp2:p<fs[i].2.length:=by have:=wx.out;have:=H'.out;omega
   obtain ⟨_,_,ce,mH⟩:=Pd.open em.1;injection ce with ce ko ch;subst ce ch;obtain ⟨_,_,cJ,I0⟩:=Pd.open em.2;injection cJ with cJ iU d9;subst cJ d9;clear ko iU;obtain ⟨gn,on,rfl,kp,I1⟩:=mH (λe=>by rw [e] at hp1;simp at hp1);obtain ⟨gx,ox,rfl,I2,I3⟩:=I0 (λe=>by rw [e] at hp2;simp at hp2);obtain ⟨sn,n1,oF⟩:=I1 p hp1;obtain ⟨sx,n2⟩:=I3 p hp2;have qL:OZ S w wr:=OZ.of HP.kw.below HS.out;have q1:=(qL.cell (p:=⟨gn,on+p*1,none⟩) sn).trans n1;rw [R4] at q1;have fw:=HP.kw.map.look fs[i].1[p] oF;unfold kV at fw;have m1:=P0 (i:=1) HP.kw.kb rfl;have eM:∃W2,W2=wr.alloc (Obj.cells #[.int .i64 (O' k' fs[i].1[p]).1,.int .i64 (O' k' fs[i].1[p]).2.1,.int .i64 (O' k' fs[i].1[p]).2.2] 100)/\OZ S w W2/\W2.heap[Fb]? =some (.cells #[.slice (some ⟨gn,on,none⟩) n cap,.slice (some ⟨gx,ox,none⟩) n' cap'] 48 (0,0))/\Kw w (.slice (some ⟨g,o,none⟩) fs.length fc) k' W2:=by
    have hw:=bD.out;refine ⟨_,rfl,OZ.of (HP.kw.alloc _).below HS.out,?_,HP.kw.alloc _⟩;rw [Qq _ _ _ (by have:=HP.out.size;omega),HP.out.on Fb hw.1 hw.2];exact bI.1
   obtain ⟨W2,eM,hk2,hb2,hw2⟩:=eM;have q2:=(hk2.cell (p:=⟨gx,ox+p*1,none⟩) sx).trans n2;rw [R4] at q2;have f1:=P0 (i:=1) hb2 rfl;have m2:=P0 (i:=1) hw2.kb rfl;have j1:(0:Int)<=(p:Int):=by omega
   have j2:(p:Int)<(n:Int):=by omega
   have j3:(p:Int)<(n':Int):=by have:=wx.out;omega
   have A2:=sa0 k' fs[i].1[p];have rh:=P4 A2;clear mH I0 I1 I3 A2 qL n1 n2 sn sx hk2 hb2 em bI;have ac2:=H'.2;have I4:=P4 eM;have A4:=P4 oF;have t8:=P4 hw2;have jr:decide (fs[i].1[p]=[]\/(∃e∈k',e.1=fs[i].1[p])\/fs[i].2[p]<0\/8<fs[i].2[p])=(fs[i].1[p].isEmpty || ((look k' fs[i].1[p]).isSome || (decide (fs[i].2[p]<0) || decide (8<fs[i].2[p])))):=by
    have hl:=rh.out;have hE:decide (fs[i].1[p]=[])=fs[i].1[p].isEmpty:=by cases fs[i].1[p]<;>rfl
    cases h1:look k' fs[i].1[p] with
    | none=>
     have h2:=hl.1 h1;simp [h2,hE]
    | some c=>
     have h2:∃e∈k',e.1=fs[i].1[p]:=by
      refine Classical.byContradiction λh3=> ?_;rw [hl.2 h3] at h1;cases h1
     simp [h2]
   clear hw2 oF;generalize hB:decide (fs[i].1[p]=[]\/(∃e∈k',e.1=fs[i].1[p])\/fs[i].2[p]<0\/8<fs[i].2[p])=B at jr;have HB:=P4 hB;clear hB
   go_upto_region 11 with fail
   rw [<-eM];clear eM fw m1 q1
   go_upto_region 12 with fail
   clear f1 q2
   go_cut [74] from 62 to 74 (λv wd=>v= .bool B/\wd=W2)
   case first=>
    clear I4 A4 t8 HB rh HP HC nx ld HS HR m2;generalize (look k' fs[i].1[p]).isSome=bb at *
    generalize fs[i].1[p]=nm at *
    generalize fs[i].2[p]=x at *
    cases h1:nm.isEmpty with
    | true=>
     obtain rfl:nm=[]:=by simpa using h1
     rw [h1] at jr;clear h1;go_wp2;go_meet
     case rel=>exact ⟨by rw [jr];rfl,rfl⟩
    | false=>
     rw [h1] at jr;cases bb with
     | true=>
      go_wp2;go_meet
      case rel=>exact ⟨by rw [jr];rfl,rfl⟩
     | false=>
      cases h2:decide (x<0) with
      | true=>
       rw [h2] at jr;go_wp2;go_meet
       case rel=>exact ⟨by rw [jr];rfl,rfl⟩
      | false=>
       rw [h2] at jr;cases h3:decide (8<x) with
       | true=>
        rw [h3] at jr;go_wp2;go_meet
        case rel=>exact ⟨by rw [jr];rfl,rfl⟩
       | false=>
        rw [h3] at jr;go_wp2;go_meet
        case rel=>exact ⟨by rw [jr];rfl,rfl⟩
   obtain ⟨rfl,qq⟩:=hcut;obtain rfl:=qq.symm;clear jr;cases B with
   | true=>
    have dz:=ZT HB.out;have HE:=P4 (HP.bad hp1 hp2 dz);obtain ⟨U,hU,aG,aZ,_⟩:=t8.ret (.slice none 0 0) (.map none);have y0:=P0 (i:=0) t8.res rfl;have y1:=P0 (i:=1) t8.res rfl;have z0:=Pp (o:=0) t8.res;have z1:=Pp (o:=1) t8.res;have eK:=P4 aZ;clear HP HC nx ld HS HR aZ dz HB rh m2;go_wp2;rw [<-hU];have u0:=P0 (i:=0) aG rfl;have u1:=P0 (i:=1) aG rfl;refine Qv (v:= .tuple #[.agg #[.slice none 0 0,.map none],.bool false]) (by simp [results,Tryz.results27,go_sem,u0,u1]) rfl ?_;exact ⟨eK.out,.inr ⟨HE.out,rfl⟩⟩
   | false=>
    have dz:=My HB.out;obtain ⟨W3,fE,eC⟩:=HP.put hp1 hp2 dz A4.out ⟨_,I4.out⟩;have hJ:=P4 eC;clear dz eC HB;go_wp2;exact ⟨⟨p+1,_,bo,by go_num,hJ.out⟩,by simp [intOf];omega⟩
  obtain rfl:p=n:=by omega
  have HD:Hid (Kr w (.slice (some ⟨g,o,none⟩) fs.length fc) fs (i+1) k' wr):=by
   have h1:=HP.out;have h2:=wx.1;rw [<-h2] at h1;exact h1.done
  clear HP;go_wp2
  go_roundw
  case rel=>exact ⟨i+1,k',ag,by go_num,HD.out⟩
  case measure=>simp [intOf];omega
 obtain rfl:i=fs.length:=by omega
 have h0:=HT.out;obtain ⟨U,hU,aG,aZ,bg3⟩:=h0.kw.ret (.slice fa fs.length fc) (.map (some (w.heap.size+1)));have y0:=P0 (i:=0) h0.kw.res rfl;have y1:=P0 (i:=1) h0.kw.res rfl;have z0:=Pp (o:=0) h0.kw.res;have z1:=Pp (o:=1) h0.kw.res;have m0:=P0 (i:=0) h0.kw.kb rfl;have m1:=P0 (i:=1) h0.kw.kb rfl;have HE:Hid (Po 0 [] fs=some k):=by
  show _=_;rw [h0.same,Yb (P6 _)]
  rfl
 clear h0;go_wp2;rw [<-hU];have u0:=P0 (i:=0) aG rfl;have u1:=P0 (i:=1) aG rfl;refine Qv (v:= .tuple #[.agg #[.slice fa fs.length fc,.map (some (w.heap.size+1))],.bool true]) (by simp [results,Tryz.results27,go_sem,u0,u1]) rfl ?_;exact ⟨aZ,.inl ⟨k,_,HE.out,rfl,by omega,bg3⟩⟩
