import Derived.Test.YtpdmkhnonbbhnaaGreatMcx
import Derived.Deep.AppendLies
namespace Go.Proofs.YtpdmkhnonbbhnaaGreat
open Go.RowKit
set_option maxHeartbeats 4000000
set_option maxRecDepth 100000
set_option linter.unusedSimpArgs false
section
variable {w w':World}{S S':Nat->Prop}{v:Value}{g o cb:Nat}{l:List Sp}{c:PM}
def WV (w:World)(S:Nat->Prop)(g o:Nat)(s:Sp):Prop:=S g/\w.cell? ⟨g,o,none⟩=some (.int .i64 s.1)/\∃pg po,w.cell? ⟨g,o+1,none⟩=some (.pointer (some ⟨pg,po,none⟩))/\RN w S pg po s.2
theorem WV.on {s:Sp}(h:WV w S g o s)(hb:OZ S w w'):WV w' S g o s:=by
 obtain ⟨h0,h1,pg,po,h2,h3⟩:=h;exact ⟨h0,(hb.cell (p:=⟨g,o,none⟩) h0).trans h1,pg,po,(hb.cell (p:=⟨g,o+1,none⟩) h0).trans h2,h3.on hb⟩
theorem WV.up {s:Sp}(h:WV w S g o s)(hB:∀b,S b->S' b):WV w S' g o s:=by
 obtain ⟨h0,h1,pg,po,h2,h3⟩:=h;exact ⟨hB _ h0,h1,pg,po,h2,h3.up hB⟩
def Q3 (w:World)(S:Nat->Prop)(v:Value)(l:List Sp):Prop:=Pd 2 (WV w S) v l
theorem Q3.on (h:Q3 w S v l)(hb:OZ S w w'):Q3 w' S v l:=h.mono λ_ _ _ _ h=>h.on hb
theorem Q3.up (h:Q3 w S v l)(hB:∀b,S b->S' b):Q3 w S' v l:=h.mono λ_ _ _ _ h=>h.up hB
def Pv (w:World)(S:Nat->Prop)(v:Value)(l:List Nat):Prop:=Pd 1 (λg o (x:Nat)=>S g/\w.cell? ⟨g,o,none⟩=some (.int .i64 x)) v l
theorem Pv.on {l:List Nat}(h:Pv w S v l)(hb:OZ S w w'):Pv w' S v l:=h.mono λg o _ _ ⟨h0,h1⟩=>⟨h0,(hb.cell (p:=⟨g,o,none⟩) h0).trans h1⟩
theorem Pv.up {l:List Nat}(h:Pv w S v l)(hB:∀b,S b->S' b):Pv w S' v l:=h.mono λ_ _ _ _ ⟨h0,h1⟩=>⟨hB _ h0,h1⟩
def QR (w:World)(S:Nat->Prop)(cb:Nat)(c:PM):Prop:=S cb/\(∃ad cap,w.cell? ⟨cb,0,none⟩=some (.slice ad c.1.length cap)/\Pv w S (.slice ad c.1.length cap) c.1)/\w.cell? ⟨cb,1,none⟩=some (.int .i64 c.2.1)/\
 (∃ad cap,w.cell? ⟨cb,2,none⟩=some (.slice ad c.2.2.length cap)/\Q3 w S (.slice ad c.2.2.length cap) c.2.2)/\∀r,r<200->w.cell? ⟨cb,3+r,none⟩=some (.bool (Rx r c))
theorem QR.on (h:QR w S cb c)(hb:OZ S w w'):QR w' S cb c:=by
 obtain ⟨h0,⟨ad,cap,h1,h2⟩,h3,⟨ad',cap',h4,h5⟩,h6⟩:=h;exact ⟨h0,⟨ad,cap,(hb.cell (p:=⟨cb,0,none⟩) h0).trans h1,h2.on hb⟩,(hb.cell (p:=⟨cb,1,none⟩) h0).trans h3,⟨ad',cap',(hb.cell (p:=⟨cb,2,none⟩) h0).trans h4,h5.on hb⟩,λr hr=>(hb.cell (p:=⟨cb,3+r,none⟩) h0).trans (h6 r hr)⟩
theorem QR.up (h:QR w S cb c)(hB:∀b,S b->S' b):QR w S' cb c:=by
 obtain ⟨h0,⟨ad,cap,h1,h2⟩,h3,⟨ad',cap',h4,h5⟩,h6⟩:=h;exact ⟨hB _ h0,⟨ad,cap,h1,h2.up hB⟩,h3,⟨ad',cap',h4,h5.up hB⟩,h6⟩
def Qw (w:World)(S:Nat->Prop)(v:Value)(l:List PM):Prop:=Pd 1 (λg o c=>S g/\∃cb,w.cell? ⟨g,o,none⟩=some (.pointer (some ⟨cb,0,none⟩))/\QR w S cb c) v l
theorem Qw.on {l:List PM}(h:Qw w S v l)(hb:OZ S w w'):Qw w' S v l:=h.mono λg o _ _ ⟨h0,cb,h1,h2⟩=>⟨h0,cb,(hb.cell (p:=⟨g,o,none⟩) h0).trans h1,h2.on hb⟩
theorem Qw.up {l:List PM}(h:Qw w S v l)(hB:∀b,S b->S' b):Qw w S' v l:=h.mono λ_ _ _ _ ⟨h0,cb,h1,h2⟩=>⟨hB _ h0,cb,h1,h2.up hB⟩
def UZ (w:World)(S:Nat->Prop)(v:Value)(l:List (Nat×List Pt)):Prop:=Pd 2 (λg o x=>S g/\w.cell? ⟨g,o,none⟩=some (.int .i64 x.1)/\∃ad cap,w.cell? ⟨g,o+1,none⟩=some (.slice ad x.2.length cap)/\Pl w S (.slice ad x.2.length cap) x.2) v l
theorem PV {b:Nat}{o:Obj}(h:w.heap[b]? =some o):b<w.heap.size:=by
 rcases Sk b w.heap.size with h1 | h1
 ·exact h1
 rw [U2 h1] at h;cases h
theorem PF (w:World)(o:Obj):(w.alloc o).heap[w.heap.size]? =some o:=by
 show (w.heap.push o)[w.heap.size]? =_;simp
theorem Oq {α:Type}{k:Nat}{f:α->List Value}:∀(l:List α),(∀x∈l,(f x).length=k)->∀j (h:j<l.length) i,i<k->(l.flatMap f)[j*k+i]? =(f l[j])[i]?
 | [],_,j,h,_,_=>by simp at h
 | a::r,hk,0,_,i,hi=>by
  rw [Y5,Xo (by rw [hk a (by simp)];omega)];simp
 | a::r,hk,j+1,h,i,hi=>by
  rw [Y5,WS (by rw [hk a (by simp),TM];omega),hk a (by simp),show (j+1)*k+i-k=j*k+i by rw [TM];omega];exact Oq r (λx hx=>hk x (by simp [hx])) j (by simpa using h) i hi
theorem Zq {α:Type}{base e k:Nat}{f:α->List Value}{l:List α}(h:w.ownsRow base e k v l.length (l.flatMap f))(hk:∀x∈l,(f x).length=k):
  Pd k (λg o x=>(v.ownBlock=some g/\base<=g/\g<w.heap.size)/\∀i,i<k->w.cell? ⟨g,o+i,none⟩=(f x)[i]?) v l:=by
 by_cases h0:l=[]
 ·subst h0;refine .inl ⟨rfl,?_⟩;rcases h.2 with ⟨rfl,_⟩ | ⟨g,cap,_,rfl,_⟩
  ·exact ⟨none,0,rfl⟩
  exact ⟨_,cap,rfl⟩
 obtain ⟨hn,h1⟩:=id h;rcases h1 with ⟨_,h1⟩ | ⟨g,cap,cur,rfl,h2,h3,h4,_⟩
 ·exact absurd (Up.1 h1) h0
 refine .inr ⟨g,0,cap,rfl,h0,h4,λj hj=>⟨⟨rfl,h2,PV h3⟩,λi hi=> ?_⟩⟩;have hc:=h.cells (g:=g) rfl;have hx:=Oq l hk j hj i hi;have hlt:i<(f l[j]).length:=by rw [hk _ (Px hj)];exact hi
 have:=hc (j*k+i) _ (hx.trans (PR hlt));rw [PR hlt,<-this]
 congr 1
 unfold Addr.add;split
 ·rename_i e;rw [show 0+j*k+i=0 by omega]
 show (⟨g,0+j*k+i,none⟩:Addr)=⟨g,0+(j*k+i),none⟩;rw [YQ]
def QX (av:Value)(n:Nat)(sv:Value)(bs:List Bool):Array Value:=([av,.int .i64 n,sv]++bs.map Value.bool).toArray
theorem ZW (av:Value)(n:Nat)(sv:Value)(bs:List Bool):(QX av n sv bs)[0]? =some av/\(QX av n sv bs)[1]? =some (.int .i64 n)/\(QX av n sv bs)[2]? =some sv/\∀r,(QX av n sv bs)[3+r]? =bs[r]?.map Value.bool:=by
 refine ⟨rfl,rfl,rfl,λr=> ?_⟩;rw [show 3+r=r+1+1+1 by omega];simp [QX]
theorem Vc (ad:Option Addr)(len cap:Nat)(n:Nat):(Tryz.zeroCells113.setIfInBounds 0 (Value.slice ad len cap)).setIfInBounds 1 (Value.int .i64 n)=QX (.slice ad len cap) n (.slice none 0 0) (List.replicate 200 false):=by rfl
theorem Vt {p:Pt}(h:RN w S g o p):Calls Tryz.prog 68 #[.pointer (some ⟨g,o,none⟩)] w λr w'=>r= .returned (.bool (Pm p))/\w'=w:=by
 obtain ⟨_,h0,_⟩:=h.open;unfold Pm;generalize p.kind=k at h0;by_cases h1:k=1
 ·subst h1;go_enter Tryz.func68,Tryz.ntmps68;go_wp2;go_ret;exact ⟨rfl,rfl⟩
 have e1:(k==1)=false:=by simpa using h1
 rw [e1,Np];by_cases h2:k=2
 ·subst h2;go_enter Tryz.func68,Tryz.ntmps68;go_wp2;go_ret;exact ⟨rfl,rfl⟩
 have e2:(k==2)=false:=by simpa using h2
 rw [e2];go_enter Tryz.func68,Tryz.ntmps68;go_wp2;go_ret;exact ⟨rfl,rfl⟩
end
section
variable {w W0 wi W:World}{i n C b:Nat}{S:Nat->Prop}{lines:List (Nat×List Pt)}{sv av v:Value}{c:Array Value}{t:TypeId}
abbrev Sr:=Nat×Nat×Nat×Pt
def sE (s:Sr):List Value:=[.int .i64 s.1,.pointer (some ⟨s.2.1,s.2.2.1,none⟩)]
def sS (s:Sr):Sp:=(s.1,s.2.2.2)
structure Inn (w:World)(S:Nat->Prop)(lines:List (Nat×List Pt))(av:Value)(n C:Nat)(W0:World)(i:Nat)(sp:List Sr)(sv:Value)(bs:List Bool)(wi:World):Prop where
 below:Below C W0 wi
 blk:wi.heap[C]? =some (.cells (QX av n sv bs) 113 (0,0))
 own:wi.ownsRow (C+1) 134 2 sv sp.length (sp.flatMap sE)
 is:sp.map sS=Pq n (lines.take i)
 pat:∀s∈sp,RN w S s.2.1 s.2.2.1 s.2.2.2
 len:bs.length=200
 has:∀r,r<200->bs[r]? =some (sp.any λs=>s.1==r)
theorem Inn.start (w wr:World)(S:Nat->Prop)(lines:List (Nat×List Pt))(av:Value)(n:Nat):Inn w S lines av n wr.heap.size (wr.alloc (Obj.cells (QX av n (.slice none 0 0) (List.replicate 200 false)) 113)) 0 [] (.slice none 0 0) (List.replicate 200 false) (wr.alloc (Obj.cells (QX av n (.slice none 0 0) (List.replicate 200 false)) 113)):=
 ⟨Pb _ _,PF _ _,U4 _ _ _ _,by simp [Pq],by simp,Tq,λr hr=>by rw [List.getElem?_replicate,Pc hr];rfl⟩
theorem Ze {W':World}{e size c:Nat}{xs:List Value}(h:W.ownsRow b e size v c xs)(hb:∀k,v.ownBlock=some k->W'.heap[k]? =W.heap[k]?):W'.ownsRow b e size v c xs:=by
 refine ⟨h.1,?_⟩;rcases h.2 with h | ⟨g,cap,cur,rfl,h1,h2,h3⟩
 ·exact .inl h
 exact .inr ⟨g,cap,cur,rfl,h1,(hb g rfl).trans h2,h3⟩
theorem Inn.lt {sp:List Sr}{bs:List Bool}(h:Inn w S lines av n C W0 i sp sv bs wi):C<wi.heap.size:=PV h.blk
theorem Inn.on {sp:List Sr}{bs:List Bool}{wj:World}(h:Inn w S lines av n C W0 i sp sv bs wi)(hb:Below wi.heap.size wi wj):Inn w S lines av n C W0 i sp sv bs wj:=
 ⟨h.below.trans (hb.mono (FW h.lt)),(hb.block _ h.lt).trans h.blk,Ze h.own λk hk=>hb.block k (h.own.lt k hk).2,h.is,h.pat,h.len,h.has⟩
theorem kq0 (n:Nat)(l:List (Nat×List Pt))(i:Nat)(h:i<l.length)(hn:n<l[i].2.length):Pq n (l.take (i+1))=Pq n (l.take i)++(if Pm l[i].2[n] then [] else [(l[i].1,l[i].2[n])]):=by
 unfold Pq;rw [S1,PR h,WL]
 congr 1
 simp only [M3,Ui,PR hn,Dx];cases Pm l[i].2[n]<;>rfl
theorem Inn.skip {sp:List Sr}{bs:List Bool}(h:Inn w S lines av n C W0 i sp sv bs wi)(hi:i<lines.length)(hn:n<lines[i].2.length)(hw:Pm lines[i].2[n]=true):Inn w S lines av n C W0 (i+1) sp sv bs wi:=
 ⟨h.below,h.blk,h.own,by rw [kq0 n lines i hi hn,hw,h.is];simp,h.pat,h.len,h.has⟩
theorem Q5 (h:W.heap[b]? =some (.cells c t (0,0))):(W.setCell ⟨b,i,none⟩ v).heap[b]? =some (.cells (c.setIfInBounds i v) t (0,0)):=by
 simp [World.setCell,Aj,h]
theorem yk1 (av:Value)(n:Nat)(sv iQ:Value)(bs:List Bool):(QX av n sv bs).setIfInBounds 2 iQ=QX av n iQ bs:=by simp [QX]
theorem WB (av:Value)(n:Nat)(sv:Value)(bs:List Bool)(r:Nat)(b:Bool):(QX av n sv bs).setIfInBounds (3+r) (.bool b)=QX av n sv (bs.set r b):=by
 rw [show 3+r=r+1+1+1 by omega];simp [QX,N']
theorem Inn.push {sp:List Sr}{iQ:Value}{bs:List Bool}{w5:World}(h:Inn w S lines av n C W0 i sp sv bs wi)(hi:i<lines.length)(hn:n<lines[i].2.length)(hw:Pm lines[i].2[n]=false){pg po:Nat}(hp:RN w S pg po lines[i].2[n])(hr:lines[i].1<200)
  (hown:w5.ownsRow (C+1) 134 2 iQ (sp.length+1) (sp.flatMap sE++[.int .i64 lines[i].1,.pointer (some ⟨pg,po,none⟩)])) (hg:wi.grownBy w5 sv.ownBlock):
  w5.heap[C]? =some (.cells (QX av n sv bs) 113 (0,0))/\(w5.setCell ⟨C,2,none⟩ iQ).heap[C]? =some (.cells (QX av n iQ bs) 113 (0,0))/\Inn w S lines av n C W0 (i+1) (sp++[(lines[i].1,pg,po,lines[i].2[n])]) iQ (bs.set lines[i].1 true) ((w5.setCell ⟨C,2,none⟩ iQ).setCell ⟨C,3+lines[i].1,none⟩ (.bool true)):=by
 have cn3:sv.ownBlock≠some C:=λe=>by have:=(h.own.lt C e).1;omega
 have b5:w5.heap[C]? =some (.cells (QX av n sv bs) 113 (0,0)):=(hg.block C h.lt (λe=>cn3 e.symm)).trans h.blk;have b6:(w5.setCell ⟨C,2,none⟩ iQ).heap[C]? =some (.cells (QX av n iQ bs) 113 (0,0)):=(Q5 b5).trans (by rw [yk1]);refine ⟨b5,b6,?_,?_,?_,?_,?_,by simpa using h.len,?_⟩
 ·refine ((h.below.grown hg (FW h.lt) (λk e=> ?_)).setCell (p:=⟨C,2,none⟩) (P6 _) _).setCell (p:=⟨C,3+lines[i].1,none⟩) (P6 _) _;have:=(h.own.lt k e).1;omega
 ·refine (Q5 b6).trans ?_;rw [WB]
 ·have:w5.ownsRow (C+1) 134 2 iQ (sp++[(lines[i].1,pg,po,lines[i].2[n])]).length ((sp++[(lines[i].1,pg,po,lines[i].2[n])]).flatMap sE):=by
   rw [WW,QP];exact hown
  refine Ze this λk hk=> ?_;have dY:=(this.lt k hk).1;rw [PX _ _ _ _ (show k≠C by omega),PX _ _ _ _ (show k≠C by omega)]
 ·rw [kq0 n lines i hi hn,hw,R6,h.is]
  rfl
 ·intro s hs;rcases PE.1 hs with hs | hs
  ·exact h.pat s hs
  have:s=(lines[i].1,pg,po,lines[i].2[n]):=by simpa using hs
  rw [this];exact hp
 intro r tr;rw [Oj,N8];by_cases e:lines[i].1=r
 ·rw [Pc e,Pc (by rw [h.len];exact hr),<-e];simp
 rw [P7 e,h.has r tr];simp [e]
theorem P5 {f:Nat×Nat}{u:Value}(h:w.heap[b]? =some (.cells c t f))(hu:c[i]? =some u):w.cell? ⟨b,i,none⟩=some u:=by
 simp only [World.cell?,h];exact hu
theorem Inn.col {ai:List Nat}{ad:Option Addr}{cap:Nat}{sp:List Sr}{bs:List Bool}(h:Inn w S lines (.slice ad ai.length cap) n C W0 lines.length sp sv bs wi)(hA:Pv w S (.slice ad ai.length cap) ai)(hS:∀b,S b->b<w.heap.size)(hb:Below w.heap.size w wi):
  sp.length=(Pq n lines).length/\∃va vc,sv= .slice va (Pq n lines).length vc/\QR wi (λb=>S b\/b=C\/sv.ownBlock=some b) C (ai,n,Pq n lines):=by
 obtain ⟨c0,c1,c2,c3⟩:=ZW (.slice ad ai.length cap) n sv bs;have kO:sp.map sS=Pq n lines:=by have:=h.is;rwa [QM] at this
 have aA:sp.length=(Pq n lines).length:=by rw [<-kO,Qb]
 have hk:OZ S w wi:=OZ.of hb hS;have au:=Zq h.own (λ_ _=>rfl);obtain ⟨va,vc,hv⟩:=au.len;rw [aA] at hv;refine ⟨aA,va,vc,hv,.inr (.inl rfl),⟨ad,cap,P5 h.blk c0,(hA.on hk).up λb hb=> .inl hb⟩,P5 h.blk c1,⟨va,vc,by rw [P5 h.blk c2,hv],?_⟩,λr hr=> ?_⟩
 ·rw [<-hv];show Q3 wi _ sv (Pq n lines);rw [<-kO];have hm:Pd 2 (λg o s=>WV wi (λb=>S b\/b=C\/sv.ownBlock=some b) g o (sS s)) sv sp:=by
   refine au.mono λg o s hs h1=> ?_;obtain ⟨⟨e1,_,_⟩,e2⟩:=h1;exact ⟨.inr (.inr e1),e2 0 (by omega),s.2.1,s.2.2.1,e2 1 (by omega),((h.pat s hs).on hk).up λb hb=> .inl hb⟩
  exact hm.map sS λ_ _ _ h=>h
 refine P5 h.blk ((c3 r).trans ?_);rw [h.has r hr];show some (Value.bool _)=some (Value.bool ((Pq n lines).any λs=>s.1==r));rw [<-kO,List.any_map]
 rfl
end
section
variable {w wr wi:World}{S:Nat->Prop}{lo g:Nat}{a b v:Value}
theorem qt0:∀(l:List Sp) (o:Nat),(∀j (h:j<l.length),WV w S g (o+j*2) l[j])->
  ∃L:List Sr,L.map sS=l/\(∀j (h:j<L.length),S g/\w.cell? ⟨g,o+j*2,none⟩=some (.int .i64 L[j].1)/\w.cell? ⟨g,o+j*2+1,none⟩=some (.pointer (some ⟨L[j].2.1,L[j].2.2.1,none⟩)))/\∀s∈L,RN w S s.2.1 s.2.2.1 s.2.2.2
 | [],_,_=>⟨[],rfl,λj h=>by simp at h,by simp⟩
 | a::r,o,h=>by
  obtain ⟨L,h1,h2,h3⟩:=qt0 r (o+2) (λj hj=>by
   have:=h (j+1) (by simpa using hj);rw [show o+(j+1)*2=o+2+j*2 by omega] at this;exact this)
  obtain ⟨s0,s1,pg,po,s2,s3⟩:=h 0 (by simp);rw [show o+0*2=o by omega] at s1 s2;refine ⟨(a.1,pg,po,a.2)::L,by rw [Re,h1];rfl,λj hj=> ?_,λs hs=> ?_⟩
  ·cases j with
   | zero=>
    rw [show o+0*2=o by omega];exact ⟨s0,s1,s2⟩
   | succ j=>
    rw [show o+(j+1)*2=o+2+j*2 by omega];exact h2 j (by simpa using hj)
  rcases Qa.1 hs with rfl | hs
  ·exact s3
  exact h3 s hs
theorem Q3.list {l:List Sp}(h:Q3 w S v l):∃L:List Sr,L.map sS=l/\Pd 2 (λg o (s:Sr)=>S g/\w.cell? ⟨g,o,none⟩=some (.int .i64 s.1)/\w.cell? ⟨g,o+1,none⟩=some (.pointer (some ⟨s.2.1,s.2.2.1,none⟩))) v L/\∀s∈L,RN w S s.2.1 s.2.2.1 s.2.2.2:=by
 rcases h with ⟨rfl,h⟩ | ⟨g,o,cap,rfl,h0,hc,h⟩
 ·exact ⟨[],rfl,.inl ⟨rfl,h⟩,by simp⟩
 obtain ⟨L,h1,h2,h3⟩:=qt0 l o h;have hl:L.length=l.length:=by rw [<-h1,Qb]
 exact ⟨L,h1,.inr ⟨g,o,cap,by rw [hl],λe=>h0 (by rw [<-h1,e];rfl),by rw [hl];exact hc,h2⟩,h3⟩
theorem JY {W:World}{base:Nat}{L:List Sr}(h:W.ownsRow base 134 2 v L.length (L.flatMap sE))(hp:∀s∈L,RN W S s.2.1 s.2.2.1 s.2.2.2):Q3 W (λb=>S b\/v.ownBlock=some b) v (L.map sS):=by
 have au:=Zq h (λ_ _=>rfl);have hm:Pd 2 (λg o s=>WV W (λb=>S b\/v.ownBlock=some b) g o (sS s)) v L:=by
  refine au.mono λg o s hs h1=> ?_;obtain ⟨⟨e1,_,_⟩,e2⟩:=h1;exact ⟨.inr e1,e2 0 (by omega),s.2.1,s.2.2.1,e2 1 (by omega),(hp s hs).up λb hb=> .inl hb⟩
 exact hm.map sS λ_ _ _ h=>h
structure Two (w:World)(lo:Nat)(L M:List Sr)(a b:Value)(wr:World):Prop where
 below:Below lo w wr
 fst:wr.ownsRow lo 134 2 a L.length (L.flatMap sE)
 snd:wr.ownsRow lo 134 2 b M.length (M.flatMap sE)
 far:∀k,a.ownBlock=some k->b.ownBlock≠some k
theorem Two.on {L M:List Sr}(h:Two w lo L M a b wr)(hl:lo<=w.heap.size)(hb:Below wr.heap.size wr wi):Two w lo L M a b wi:=
 ⟨h.below.trans (hb.mono (by have:=h.below.size;omega)),Ze h.fst λk hk=>hb.block k (h.fst.lt k hk).2,Ze h.snd λk hk=>hb.block k (h.snd.lt k hk).2,h.far⟩
theorem Two.put1 {L M:List Sr}{w5:World}{cap H:Nat}{s:Sr}{o:Obj}(h:Two w lo L M a b wi)(hl:lo<=w.heap.size)(hown:w5.ownsRow lo 134 2 (.slice (some ⟨g,0,none⟩) (L.length+1) cap) (L.length+1) (L.flatMap sE++sE s))(hg:(wi.alloc o).grownBy w5 a.ownBlock)(bL:a.ownBlock=some g\/g=H)(hH:wi.heap.size<=H):
  Two w lo (L++[s]) M (.slice (some ⟨g,0,none⟩) (L.length+1) cap) b w5:=by
 have hsz:=h.below.size;have hb:∀k,b.ownBlock=some k->w5.heap[k]? =wi.heap[k]? :=λk hk=>by
  have dY:=(h.snd.lt k hk).2;rw [hg.block k (by simp;omega) (λe=>h.far k e.symm hk)];exact Qq _ _ _ dY
 refine ⟨(h.below.alloc (by omega) o).grown hg (by simp;omega) (λk e=>(h.fst.lt k e).1),?_,Ze h.snd hb,λk hk=> ?_⟩
 ·rw [WW,QP];simpa using hown
 have e:g=k:=by simpa [Value.ownBlock] using hk
 subst e;rcases bL with bL | bL
 ·exact h.far _ bL
 intro e;have:=(h.snd.lt _ e).2;omega
theorem Two.swap {L M:List Sr}(h:Two w lo L M a b wr):Two w lo M L b a wr:=⟨h.below,h.snd,h.fst,λk hk e=>h.far k e hk⟩
theorem Two.start (w:World)(lo:Nat):Two w lo [] [] (.slice none 0 0) (.slice none 0 0) w:=⟨Pb _ _,U4 _ _ _ _,U4 _ _ _ _,λk h=>by cases h⟩
end
section
variable {w wr wi:World}{S:Nat->Prop}{ai:List Nat}{lines:List (Nat×List Pt)}{j:Nat}{lc:Value}
def pE (c:Nat×PM):List Value:=[.pointer (some ⟨c.1,0,none⟩)]
def Tn (w:World)(S:Nat->Prop)(wr:World)(lc:Value)(b:Nat):Prop:=S b\/(w.heap.size<=b/\b<wr.heap.size/\lc.ownBlock≠some b)
structure Outv (w:World)(S:Nat->Prop)(ai:List Nat)(lines:List (Nat×List Pt))(j:Nat)(cs:List (Nat×PM))(lc:Value)(wr:World):Prop where
 below:Below w.heap.size w wr
 own:wr.ownsRow w.heap.size 109 1 lc cs.length (cs.flatMap pE)
 is:cs.map (·.2)=QA ai j lines
 col:∀c∈cs,QR wr (Tn w S wr lc) c.1 c.2
theorem Outv.start (w:World)(S:Nat->Prop)(ai:List Nat)(lines:List (Nat×List Pt)):Outv w S ai lines 0 [] (.slice none 0 0) w:=
 ⟨Pb _ _,U4 _ _ _ _,rfl,by simp⟩
theorem kr0 (ai:List Nat)(j:Nat)(lines:List (Nat×List Pt)):QA ai (j+1) lines=QA ai j lines++(if (Pq j lines).isEmpty then [] else [(ai,j,Pq j lines)]):=by
 unfold QA;rw [YH,WL]
 congr 1
 simp only [Ui,Dx];cases (Pq j lines).isEmpty<;>rfl
theorem Outv.on {cs:List (Nat×PM)}(h:Outv w S ai lines j cs lc wr)(hS:∀b,S b->b<w.heap.size)(hb:Below wr.heap.size wr wi):Outv w S ai lines j cs lc wi:=by
 refine ⟨h.below.trans (hb.mono h.below.size),Ze h.own λk hk=>hb.block k (h.own.lt k hk).2,h.is,λc hc=> ?_⟩;refine ((h.col c hc).on (OZ.of hb λb aj=> ?_)).up λb aj=> ?_
 ·rcases aj with aj | ⟨_,aj,_⟩
  ·have:=hS b aj;have:=h.below.size;omega
  exact aj
 rcases aj with aj | ⟨h1,h2,h3⟩
 ·exact .inl aj
 exact .inr ⟨h1,by have:=hb.size;omega,h3⟩
theorem Outv.skip {cs:List (Nat×PM)}(h:Outv w S ai lines j cs lc wr)(he:Pq j lines=[]):Outv w S ai lines (j+1) cs lc wr:=
 ⟨h.below,h.own,by rw [kr0,he,h.is];simp,h.col⟩
theorem Outv.push {cs:List (Nat×PM)}{w7:World}{C g cap H:Nat}{sv:Value}{o:Obj}(h:Outv w S ai lines j cs lc wi)(hS:∀b,S b->b<w.heap.size)(am:Pq j lines≠[])(hc:QR wi (λb=>S b\/b=C\/sv.ownBlock=some b) C (ai,j,Pq j lines))
  (hC:w.heap.size<=C/\C<wi.heap.size/\lc.ownBlock≠some C) (bc6:∀b,sv.ownBlock=some b->w.heap.size<=b/\b<wi.heap.size/\lc.ownBlock≠some b)
  (hown:w7.ownsRow w.heap.size 109 1 (.slice (some ⟨g,0,none⟩) (cs.length+1) cap) (cs.length+1) (cs.flatMap pE++[.pointer (some ⟨C,0,none⟩)])) (hg:(wi.alloc o).grownBy w7 lc.ownBlock) (bL:lc.ownBlock=some g\/g=H) (hH:wi.heap.size<=H):
  Outv w S ai lines (j+1) (cs++[(C,(ai,j,Pq j lines))]) (.slice (some ⟨g,0,none⟩) (cs.length+1) cap) w7:=by
 have hsz:wi.heap.size<=w7.heap.size:=by have:=hg.size;simp at this;omega
 have bA:∀b,Tn w S wi lc b->Tn w S w7 (.slice (some ⟨g,0,none⟩) (cs.length+1) cap) b:=λb hb=>by
  rcases hb with hb | ⟨h1,h2,h3⟩
  ·exact .inl hb
  refine .inr ⟨h1,by omega,λe=> ?_⟩;have e:g=b:=by simpa [Value.ownBlock] using e
  rcases bL with bL | bL
  ·exact h3 (by rw [bL,e])
  omega
 have ir:OZ (Tn w S wi lc) wi w7:=λb hb=>by
  have dS:b<wi.heap.size:=by
   rcases hb with hb | ⟨_,h2,_⟩
   ·have:=hS b hb;have:=h.below.size;omega
   exact h2
  rw [hg.block b (by simp;omega) (λe=> ?_)]
  ·exact Qq _ _ _ dS
  rcases hb with hb | ⟨_,_,h3⟩
  ·have:=(h.own.lt b e.symm).1;have:=hS b hb;omega
  exact h3 e.symm
 refine ⟨(h.below.alloc h.below.size o).grown hg (by have:=h.below.size;simp;omega) (λk e=>(h.own.lt k e).1),?_,?_,λc di=> ?_⟩
 ·rw [WW,QP];exact hown
 ·rw [R6,h.is,kr0,P7 (by simpa using am)]
  rfl
 rcases PE.1 di with di | di
 ·exact ((h.col c di).on ir).up bA
 have e:c=(C,(ai,j,Pq j lines)):=by simpa using di
 rw [e];have hc2:QR wi (Tn w S wi lc) C (ai,j,Pq j lines):=hc.up λb hb=>by
  rcases hb with hb | rfl | hb
  ·exact .inl hb
  ·exact .inr hC
  exact .inr (bc6 b hb)
 exact (hc2.on ir).up bA
theorem Outv.done {cs:List (Nat×PM)}(h:Outv w S ai lines j cs lc wr):Qw wr (λb=>S b\/(w.heap.size<=b/\b<wr.heap.size)) lc (QA ai j lines):=by
 have au:=Zq h.own (λ_ _=>rfl);have:Pd 1 (λg o (c:Nat×PM)=>(S g\/(w.heap.size<=g/\g<wr.heap.size))/\∃cb,wr.cell? ⟨g,o,none⟩=some (.pointer (some ⟨cb,0,none⟩))/\QR wr (λb=>S b\/(w.heap.size<=b/\b<wr.heap.size)) cb c.2) lc cs:=by
  refine au.mono λg o c hc h1=> ?_;obtain ⟨⟨_,e1,e2⟩,e3⟩:=h1;refine ⟨.inr ⟨e1,e2⟩,c.1,e3 0 (by omega),(h.col c hc).up λb hb=> ?_⟩;rcases hb with hb | ⟨h1,h2,_⟩
  ·exact .inl hb
  exact .inr ⟨h1,h2⟩
 rw [<-h.is];exact Pd.map (λc:Nat×PM=>c.2) (λ_ _ _ h=>h) this
end
