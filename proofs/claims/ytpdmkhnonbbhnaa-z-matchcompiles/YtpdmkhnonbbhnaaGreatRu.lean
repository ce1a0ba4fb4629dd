import Derived.Test.YtpdmkhnonbbhnaaGreatMsx
import Derived.Test.YtpdmkhnonbbhnaaGreatVd
namespace Go.Proofs.YtpdmkhnonbbhnaaGreat
open Go.RowKit Go.Maps
set_option maxHeartbeats 16000000
set_option maxRecDepth 10000
variable {w:World}{S:Nat->Prop}{n cap:Nat}{ad:Option Addr}{l:List Qg}
def WF:Elt Qg where
 k:=1
 C _ _ cs x:=cs=[.string ⟨x.toArray⟩]/\x.length<140737488355328
 len:=by rintro _ _ _ _ ⟨rfl,_⟩;rfl
 one:=by rintro _ _ _ _ ⟨rfl,_⟩ u hu;rw [Ra.1 hu];rfl
 on:=λ_ _ h=>h
theorem Tryz.ty46:Ty 46 9 WF.k 16:=by
 obtain ⟨i,hi,h0,h1,h2⟩:=info_parts (show (Tryz.prog.info? 9).map (λi=>(i.zero,i.size,i.bytes))=some (some (.string ⟨#[]⟩),1,16) by kernel_rfl);exact ⟨Tryz.underlying46,⟨i,_,hi,h0,h1,h2,rfl⟩,by decide,by decide⟩
theorem PC.strAt {Z:Nat->Prop}(h:PC WF w Z S (.slice ad n cap) l){i:Nat}(hi:i<l.length):∃g o,ad=some ⟨g,o,none⟩/\l.length<=cap/\Z g/\w.cell? ⟨g,o+i,none⟩=some (.string ⟨l[i].toArray⟩):=by
 rcases h with ⟨rfl,_⟩ | ⟨g,o,cap',e,h0,h1,h2⟩
 ·simp at hi
 injection e with e1 e2 e3;subst e1 e3;obtain ⟨z,cs,⟨rfl,hp⟩,hc⟩:=h2 i hi;have:=hc 0 (by decide);rw [show i*WF.k=i from R4 i] at this;exact ⟨g,o,rfl,h1,z,this⟩
structure Nz (w:World)(kn:Kn)(v:Value)(wr:World):Prop where
 below:Below w.heap.size w wr
 own:Pi WF 9 w.heap.size No wr v (kn.map (·.1))
theorem Nz.on {kn:Kn}{v:Value}{wr w':World}(h:Nz w kn v wr)(hb:Below wr.heap.size wr w'):Nz w kn v w':=⟨h.below.trans (hb.mono h.below.size),h.own.on No.lt h.below.size hb⟩
theorem X7 {fa:Option Addr}{fc:Nat}{fs:List Pu}(h:PH w S (.slice fa n fc) fs){i:Nat}(hi:i<fs.length):∃gf of sa sc ia ic,fa=some ⟨gf,of,none⟩/\fs.length<=fc/\S gf/\w.cell? ⟨gf,of+i*2,none⟩=some (.slice sa fs[i].1.length sc)/\w.cell? ⟨gf,of+i*2+1,none⟩=some (.slice ia fs[i].2.length ic)/\RE w S (.slice sa fs[i].1.length sc) fs[i].1/\Rl w S (.slice ia fs[i].2.length ic) fs[i].2:=by
 rcases h with ⟨e,_⟩ | ⟨gf,of,xj,e,_,hc,hr⟩
 ·rw [e] at hi;simp at hi
 injection e with e1 _ e3;subst e1 e3;obtain ⟨sg,⟨sa,sc,c1,hs⟩,ia,ic,c2,aB⟩:=hr i hi;exact ⟨gf,of,sa,sc,ia,ic,rfl,hc,sg,c1,c2,hs,aB⟩
theorem Va (h:RE w S (.slice ad n cap) l){i:Nat}(hi:i<l.length):∃g o,ad=some ⟨g,o,none⟩/\l.length<=cap/\S g/\w.cell? ⟨g,o+i,none⟩=some (.string ⟨l[i].toArray⟩)/\l[i].length<140737488355328:=by
 rcases h with ⟨rfl,_⟩ | ⟨g,o,cap',e,h0,h1,h2⟩
 ·simp at hi
 injection e with e1 e2 e3;subst e1 e3;have:=h2 i hi;rw [R4] at this;exact ⟨g,o,rfl,h1,this.1,this.2⟩
theorem Z4 {l:List Int}(h:Rl w S (.slice ad n cap) l){i:Nat}(hi:i<l.length):∃g o,ad=some ⟨g,o,none⟩/\l.length<=cap/\S g/\w.cell? ⟨g,o+i,none⟩=some (.int .i64 l[i]):=by
 rcases h with ⟨rfl,_⟩ | ⟨g,o,cap',e,h0,h1,h2⟩
 ·simp at hi
 injection e with e1 e2 e3;subst e1 e3;have:=h2 i hi;rw [R4] at this;exact ⟨g,o,rfl,h1,this.1,this.2⟩
theorem vg1 (fs:List Pu)(fa:Option Addr)(fc:Nat)(hS:∀y,S y->y<w.heap.size)(ee:PH w S (.slice fa fs.length fc) fs)(aY:fs.length<=100000)(sV:(fs.map λf=>f.1.length).sum<=100000):
  Calls Tryz.prog 20 #[.slice fa fs.length fc] w λr w'=>r= .returned (.bool (Po 0 [] fs).isSome)/\Below w.heap.size w w':=by
 have HS:=P4 hS;have HF:Hid (∀W',Below w.heap.size w W'->PH W' S (.slice fa fs.length fc) fs):=λW' aj=>ee.on (OZ.of aj hS);have vU:=P4 sV;clear hS ee sV;go_enter Tryz.func20,Tryz.ntmps20;go_wp2
 go_loopw [3,4] (λv iv wr=>∃(i:Nat) (kn:Kn),i<=fs.length/\iv= .int .i64 i/\Hid (Nz w kn v wr)/\Hid (Po 0 [] fs=Po i kn (fs.drop i)/\kn.length+((fs.drop i).map λf=>f.1.length).sum<=100000)) (λ_ iv _=>fs.length-(intOf iv).toNat)
 case atStart=>exact ⟨0,[],by omega,by go_num,⟨Pb _ _,Pi.nil _ _ _ _ _⟩,rfl,by simpa using vU.out⟩
 obtain ⟨i,kn,hi,rfl,HN,HK⟩:=hrel;by_cases ag:i<fs.length
 ·obtain ⟨gf,of,sa,sc,ia,ic,rfl,tu,sg,qo,BE,jK,zv⟩:=X7 (HF.out w (Pb _ _)) ag;have E0:Hid (∀W',Below w.heap.size w W'->W'.cell? ⟨gf,of+i*2,none⟩=some (.slice sa fs[i].1.length sc)/\W'.cell? ⟨gf,of+i*2+1,none⟩=some (.slice ia fs[i].2.length ic)/\RE W' S (.slice sa fs[i].1.length sc) fs[i].1/\Rl W' S (.slice ia fs[i].2.length ic) fs[i].2):=λW' aj=>⟨(aj.cell (p:=⟨gf,of+i*2,none⟩) (HS.out gf sg)).trans qo,(aj.cell (p:=⟨gf,of+i*2+1,none⟩) (HS.out gf sg)).trans BE,jK.on (OZ.of aj HS.out),zv.on (OZ.of aj HS.out)⟩;clear qo BE jK zv;obtain ⟨c1,c2,hs,BF⟩:=E0.out wr HN.below;have i1:(0:Int)<=(i:Int):=by omega
  have i2:(i:Int)<(fs.length:Int):=by omega
  have jC:=KB i kn fs ag;have eu:Hid _:=jC;have kp:kn.length+fs[i].1.length+((fs.drop (i+1)).map λf=>f.1.length).sum<=100000:=by
   have:=HK.2;rw [Ur ag,Re,SO] at this;omega
  have eh:fs[i].1.length<=100000:=by omega
  have DA:Hid _:=kp;have dh:gf<wr.heap.size:=PQ (HS.out gf sg) HN.below.size;clear jC kp hs BF;generalize ah6:fs[i]=F at *
  by_cases dz:F.1.length=0\/24<F.1.length\/F.2.length≠F.1.length
  ·have cY:Hid ((Po 0 [] fs).isSome=false):=by
    show _=_;rw [HK.out.1,eu.out,Pc dz]
    rfl
   clear eu HK;by_cases h0:F.1.length<1
   ·have e0:((F.1.length:Nat):Int)<1:=by omega
    go_wp2;go_ret;rw [cY.out];exact ⟨rfl,HN.below⟩
   have e0:¬((F.1.length:Nat):Int)<1:=by omega
   by_cases zw:24<F.1.length
   ·have e1:(24:Int)<((F.1.length:Nat):Int):=by omega
    go_wp2;go_ret;rw [cY.out];exact ⟨rfl,HN.below⟩
   have e1:¬(24:Int)<((F.1.length:Nat):Int):=by omega
   have e2:(((F.2.length:Nat):Int) !=((F.1.length:Nat):Int))=true:=by simp;omega
   clear dz;go_wp2;go_ret;rw [cY.out];exact ⟨rfl,HN.below⟩
  have e0:¬((F.1.length:Nat):Int)<1:=by omega
  have e1:¬(24:Int)<((F.1.length:Nat):Int):=by omega
  have cj:F.2.length=F.1.length:=by omega
  have e2:(((F.2.length:Nat):Int) !=((F.1.length:Nat):Int))=false:=by simp;omega
  have E2:Hid (Po 0 [] fs=(Qt i kn 0 F.1 F.2).bind λk'=>Po (i+1) k' (fs.drop (i+1))):=by
   show _=_;rw [HK.out.1,eu.out,P7 dz]
  have DR:F.1.length<=24:=by omega
  clear eu HK dz eh;go_wp2;have lH:=P4 HN.out;clear HN c1 c2 e2
  go_loopw [3,6] (λv kv gQ=>∃(p:Nat) (ff:Kn),p<=F.1.length/\kv= .int .i64 p/\Hid (Nz w ff v gQ)/\Hid ((Po 0 [] fs=(Qt i ff p (F.1.drop p) (F.2.drop p)).bind λk'=>Po (i+1) k' (fs.drop (i+1)))/\ff.length+(F.1.length-p)+((fs.drop (i+1)).map λf=>f.1.length).sum<=100000)) (λ_ kv _=>F.1.length-(intOf kv).toNat)
  case atStart=>exact ⟨0,kn,by omega,by go_num,lH.out,E2.out,by have:=DA.out;omega⟩
  obtain ⟨p,ff,hp,rfl,HN,HK⟩:=hrel;obtain ⟨va,vc,zx⟩:=Own.len HN.own;rw [Qb] at zx;subst zx;have eZ:ff.length<=100000:=by have:=HK.2;omega
  by_cases bo:p<F.1.length
  ·obtain ⟨c1,c2,hs,BF⟩:=E0.out wr HN.below;obtain ⟨gs,os,rfl,DS,pU,s1,fL⟩:=Va hs bo;obtain ⟨gi,oi,rfl,vL,pV,t1⟩:=Z4 BF (by omega:p<F.2.length);have p1:(0:Int)<=(p:Int):=by omega
   have p2:(p:Int)<(F.1.length:Int):=by omega
   have p3:(p:Int)<(F.2.length:Int):=by omega
   have eu:Hid _:=Lm i ff p F.1 F.2 bo (by omega);have zy:Hid (∀W',Below w.heap.size w W'->W'.cell? ⟨gf,of+i*2,none⟩=some (.slice (some ⟨gs,os,none⟩) F.1.length sc)/\W'.cell? ⟨gs,os+p,none⟩=some (.string ⟨F.1[p].toArray⟩)):=λW' aj=>by
    obtain ⟨a1,_,a3,_⟩:=E0.out W' aj;obtain ⟨g',o',e',_,_,a4,_⟩:=Va a3 bo;injection e' with e';injection e' with e1 e2;subst e1 e2;exact ⟨a1,a4⟩
   have wx:=P4 fL;clear hs BF fL;generalize F.1[p]=nm at *
   generalize F.2[p]'(by omega)=x at *
   have bB:Hid ((nm=[]\/(∃e∈ff,e.1=nm)\/x<0\/8<x)->(Po 0 [] fs).isSome=false):=λh=>by
    rw [HK.out.1,eu.out,Pc h]
    rfl
   cases hE:(nm==([]:Qg)) with
   | true=>
    have cY:Hid _:=bB.out (.inl (Us hE));clear bB eu;go_wp2;go_ret;rw [cY.out];exact ⟨rfl,HN.below⟩
   | false=>
    by_cases lF:x<0
    ·have cY:Hid _:=bB.out (.inr (.inr (.inl lF)));clear bB eu;go_wp2;go_ret;rw [cY.out];exact ⟨rfl,HN.below⟩
    by_cases Hc:8<x
    ·have cY:Hid _:=bB.out (.inr (.inr (.inr Hc)));clear bB eu;go_wp2;go_ret;rw [cY.out];exact ⟨rfl,HN.below⟩
    have oh:Hid (nm≠[]):=λe=>by rw [e] at hE;simp at hE
    have HX:=Qh lF Hc;go_wp2;have i':=P4 HN.out;clear HN c1 c2 s1 t1
    go_loopw [7] (λjv zz=>∃j:Nat,j<=ff.length/\jv= .int .i64 j/\Hid (Nz w ff (.slice va ff.length vc) zz)/\Hid (∀e∈ff.take j,e.1≠nm)) (λjv _=>ff.length-(intOf jv).toNat)
    case atStart=>exact ⟨0,by omega,by go_num,i'.out,λe he=>by simp at he⟩
    obtain ⟨j,hj,rfl,HN,HM⟩:=hrel;obtain ⟨f1,f2⟩:=zy.out wr HN.below;by_cases cO:j<ff.length
    ·obtain ⟨gn,on,rfl,bi2,_,y1⟩:=(Pi.rowE HN.own).strAt (i:=j) (by simpa using cO);rw [R7] at y1;rw [Qb] at bi2;have j1:(0:Int)<=(j:Int):=by omega
     have j2:(j:Int)<(ff.length:Int):=by omega
     have E3:Hid (ff[j].1=nm->(Po 0 [] fs).isSome=false):=λe=>bB.out (.inr (.inl ⟨ff[j],Px cO,e⟩));have mQ:Hid (ff[j].1≠nm->∀e∈ff.take (j+1),e.1≠nm):=λam e he=>by
      rw [S1,PR cO] at he;rcases PE.1 he with he | he
      ·exact HM.out e he
      rw [show e=ff[j] by simpa using he];exact am
     generalize ff[j].1=y at *
     cases hY:(y==nm) with
     | true=>
      have cY:Hid _:=E3.out (Us hY);clear E3 mQ;go_wp2
      go_region
      all_goals
       go_wp2;go_ret;rw [cY.out];exact ⟨rfl,by first | exact HN.below | exact HN.below.drew⟩
     | false=>
      have em:Hid _:=mQ.out (λe=>by rw [e] at hY;simp at hY);clear E3 mQ;go_wp2
      go_region
      all_goals
       go_wp2;refine ⟨⟨j+1,cO,by go_num,by first | exact HN.out | exact HN.on (Pb _ _).drew,em.out⟩,by simp [intOf];omega⟩
    obtain rfl:j=ff.length:=by omega
    have ba2:Hid (¬(nm=[]\/(∃e∈ff,e.1=nm)\/x<0\/8<x)):=by
     rintro (h | ⟨e,he,h⟩ | h | h)
     ·exact oh.out h
     ·exact HM.out e (by rw [QM];exact he) h
     ·have:=HX.out;omega
     have:=HX.out;omega
    go_wp2_with (at_builtin;refine Ue (E:=WF) (v:= .slice va ff.length vc) (cs:=[.string ⟨nm.toArray⟩]) (p:=nm) Tryz.ty46 rfl _ _ rfl rfl HN.out.own No.lt HN.out.below.size (Pb _ _) rfl ⟨rfl,wx.out⟩ (P6 _) (by rw [Qb];omega) ?_;intro v5 w5 O5 B5 _)
    refine ⟨⟨p+1,ff++[(nm,i,p,x.toNat)],bo,by go_num,⟨HN.out.below.trans B5,by rw [R6];exact O5⟩,?_,?_⟩,by simp [intOf];omega⟩
    ·rw [HK.out.1,eu.out,P7 ba2.out]
    have:=HK.2;rw [QP,List.length_singleton];omega
  obtain rfl:p=F.1.length:=by omega
  have BG:Hid (Po 0 [] fs=Po (i+1) ff (fs.drop (i+1))/\ff.length+((fs.drop (i+1)).map λf=>f.1.length).sum<=100000):=by
   refine ⟨?_,by have:=HK.2;omega⟩;rw [HK.out.1,Yb (P6 _)]
   rfl
  go_wp2;exact ⟨⟨i+1,ff,ag,by go_num,HN.out,BG.out⟩,by simp [intOf];omega⟩
 obtain rfl:i=fs.length:=by omega
 have oq:Hid ((Po 0 [] fs).isSome=true):=by
  show _=_;rw [HK.out.1,Yb (P6 _)]
  rfl
 go_wp2;go_ret;rw [oq.out];exact ⟨rfl,HN.below⟩
