import Derived.Test.YtpdmkhnonbbhnaaGreatMwx
namespace Go.Proofs.YtpdmkhnonbbhnaaGreat
open Go.RowKit Go.Maps
set_option maxHeartbeats 16000000
set_option maxRecDepth 10000
section
variable {k e b t off:Nat}
theorem cm1 (T:Ty t e k b){W:World}{ad:Option Addr}{n cap:Nat}{bs:List Nat}(h:QG W k e ad n cap bs)(cs:List Value)(aT:cs.length=k)(h1:∀u∈cs,u.oneCell'=true)(hn:n+1<=10000000)(ty:TypeId):
  ∃g cap' lA W',(Builtin.append_ #[t,t] ty #[.slice ad n cap,.slice (some ⟨W.heap.size,0,none⟩) 1 1]).run Tryz.prog (W.alloc (.cells cs.toArray e))= .ok (.slice (some ⟨g,0,none⟩) (n+1) cap') W'/\QG W' k e (some ⟨g,0,none⟩) (n+1) cap' lA/\(lA=bs\/(lA=[g]/\W.heap.size<=g))/\KxB bs W W'/\∀y∈bs,∀cur,W.heap[y]? =some (.cells cur e (0,0))->∃cur',W'.heap[y]? =some (.cells cur' e (0,0))/\cur'.size=cur.size/\∀o,o<n*k->W'.cell? ⟨y,o,none⟩=W.cell? ⟨y,o,none⟩:=by
 obtain ⟨i,z,hi,hz,hk,pw,px⟩:=T.info;have hb2:Below W.heap.size W (W.alloc (.cells cs.toArray e)):=(Pb _ _).alloc (P6 _) _;have ji:=PF W (.cells cs.toArray e);have dw:=World.news_of_block (cs:=cs.toArray) ji;have hsm:=T.small;have du:(n+1)*b<=140737488355328:=by
  have:=KH hn hsm;omega
 have aA:cs.length=1*k:=by rw [aT,YF]
 rcases h with ⟨rfl,rfl,rfl,rfl⟩ | ⟨g,cur,rfl,rfl,h3,h4,h5,h6⟩
 ·obtain ⟨g,cap',W',hr,hown,fK,bL,_⟩:=run_append_lies (P:=Tryz.prog) (W.alloc (.cells cs.toArray e)) t ty (W.alloc (.cells cs.toArray e)).heap.size e i z k b T.slice hi hz hk pw px T.pos (.slice none 0 0) 0 [] (U4 _ _ _ _) ⟨W.heap.size,0,none⟩ 1 1 cs aA dw h1 (by omega) (by unfold maxLen;omega) du (P6 _) _ rfl;have hg:W.heap.size<=g:=PZ hb2.size ((hown.lt g rfl).1);refine ⟨g,cap',[g],W',by simpa using hr,?_,.inr ⟨rfl,hg⟩,⟨fK.os,fK.tape,fK.output,PZ hb2.size fK.size,λy hy _=> ?_⟩,λy hy=>by simp at hy⟩
  ·rcases hown.2 with ⟨h,_⟩ | ⟨g',cap2,cur,h,_,k2,k3,k4,k5,_⟩
   ·cases h
   injection h with q1 q2 q3;injection q1 with q1;injection q1 with q1;subst q1 q3;exact .inr ⟨g,cur,rfl,rfl,k2,k5,by simpa using k3,k4⟩
  exact (fK.block y (PQ hy hb2.size) (by simp [Value.ownBlock])).trans (hb2.block y hy)
 have dh:=PV h3;have Cf:(W.alloc (.cells cs.toArray e)).heap[g]? =some (.cells cur e (0,0)):=(hb2.block g dh).trans h3;rcases Sk n cap with tm | cA
 ·have fk:n*k+k<=cap*k:=by
   have:(n+1)*k<=cap*k:=ZE k (by omega)
   rwa [TM,YF] at this
  have hr:=run_append_room_cells (P:=Tryz.prog) (W.alloc (.cells cs.toArray e)) t ty e i T.slice hi g 0 n cap ⟨W.heap.size,0,none⟩ 1 1 cs (by rw [hk];exact aA) dw h1 tm
   (λj hj=>by rw [hk,Rp];exact yh1 Cf (by omega)) (λj _=>Pp Cf)
  rw [hk,Rp] at hr;obtain ⟨r1,r2,r3,r4⟩:=Ms cs (W.alloc (.cells cs.toArray e)) g (n*k);obtain ⟨cur',c1,c2⟩:=J' cs _ g (n*k) _ Cf;refine ⟨g,cap,[g],_,hr,.inr ⟨g,cur',rfl,rfl,c1,by omega,tm,h6⟩,.inl rfl,⟨r1,r2,r3,?_,λy hy am=> ?_⟩,λy hy mq hy2=> ?_⟩
  ·rw [r4];exact hb2.size
  ·rw [NB _ _ _ _ _ (λe=>am (by rw [e];simp))];exact hb2.block y hy
  rw [Ra] at hy;subst hy;rw [h3] at hy2;injection hy2 with hy2;injection hy2 with hy2;subst hy2;refine ⟨cur',c1,c2,λo ho=> ?_⟩;rw [World.cell?_setCells_out y cs (n*k) _ ⟨y,o,none⟩ λ_ _=> .inl ho];exact Qm (hb2.block y dh) o
 have kp:cap=n:=by omega
 subst kp;obtain ⟨v',W',hr,hown,fK⟩:=run_append_arg_grows (P:=Tryz.prog) (W.alloc (.cells cs.toArray e)) t ty e i z k b T.slice hi hz hk pw px T.pos ⟨g,0,none⟩ cap cap cur.toList (by simpa using h4) (λj u hj=>by
  rw [Addr.add_lit,Rp];exact P0 Cf (by rwa [Nr] at hj)) ⟨W.heap.size,0,none⟩ 1 1 cs aA dw (by omega) (by unfold maxLen;omega) du
 rcases hown.2 with ⟨_,h0⟩ | ⟨g',cap2,mq,rfl,k1,k2,k3,k4,k5,_⟩
 ·omega
 have hg:W.heap.size<=g':=PZ hb2.size k1;refine ⟨g',cap2,[g'],W',hr,.inr ⟨g',mq,rfl,rfl,k2,k5,k3,k4⟩,.inr ⟨rfl,hg⟩,⟨fK.os,fK.tape,fK.output,PZ hb2.size fK.size,λy hy _=>(fK.block y (PQ hy hb2.size) (by simp)).trans (hb2.block y hy)⟩,λy _ mq hy2=> ?_⟩;have hq:=(fK.block y (PQ (PV hy2) hb2.size) (by simp)).trans (hb2.block y (PV hy2));exact ⟨mq,hq.trans hy2,rfl,λo _=>Qm hq o⟩
structure Gs (k e off:Nat)(L:List Value)(bs:List (List Nat))(w wr:World):Prop where
 kx:KxB bs.flatten w wr
 lis:QH wr k e L bs
 brs:SZ wr k off L
structure Gw (k e off:Nat)(L:List Value)(bs:List (List Nat))(w:World)(i n m:Nat)(lv:Value)(wr:World):Prop where
 gs:Gs k e off L bs w wr
 own:∃ad cap b,lv= .slice ad (n+m) cap/\QG wr k e ad (n+m) cap b/\(bs[i]? =some b\/∃g,b=[g]/\w.heap.size<=g)
theorem Gs.at {L:List Value}{bs:List (List Nat)}{w wr:World}(h:Gs k e off L bs w wr){i:Nat}(hi:i<L.length){ad:Option Addr}{n cap:Nat}(e1:L[i]= .slice ad n cap):Gw k e off L bs w i n 0 (.slice ad n cap) wr:=by
 have aB:i<bs.length:=by rw [h.lis.1];exact hi
 obtain ⟨ad',m,cp,q1,q2⟩:=h.lis.2 i hi aB;rw [e1] at q1;injection q1 with q1 q3 q4;subst q1 q3 q4;exact ⟨h,ad,cap,_,rfl,q2,.inl (PR aB)⟩
theorem Gw.put (T:Ty t e k b){L:List Value}{bs:List (List Nat)}{w wr:World}{i n m:Nat}{lv:Value}(h:Gw k e off L bs w i n m lv wr)(cM:off<k)(bM:∀y∈bs.flatten,y<w.heap.size)(hnd:bs.flatten.Nodup)(hi:i<L.length){ad:Option Addr}{cap:Nat}(e1:L[i]= .slice ad n cap)(hn:n<=1000000)(hm:m<5)(cs:List Value)(aT:cs.length=k)(h1:∀u∈cs,u.oneCell'=true)(ty:TypeId):
  ∃g cap' W',(Builtin.append_ #[t,t] ty #[lv,.slice (some ⟨wr.heap.size,0,none⟩) 1 1]).run Tryz.prog (wr.alloc (.cells cs.toArray e))= .ok (.slice (some ⟨g,0,none⟩) (n+m+1) cap') W'/\Gw k e off L bs w i n (m+1) (.slice (some ⟨g,0,none⟩) (n+m+1) cap') W':=by
 obtain ⟨ad2,cap2,b2,rfl,h3,h4⟩:=h.own;obtain ⟨g,cap',b3,W',hr,k1,k2,k3,k4⟩:=cm1 T h3 cs aT h1 (by omega) ty;have aB:i<bs.length:=by rw [h.gs.lis.1];exact hi
 have hsz:=h.gs.kx.size;have aE:∀j (hj:j<L.length) (aJ:j<bs.length) y,y∈bs[j]->W'.heap[y]? =wr.heap[y]?\/(j=i/\∀cur,wr.heap[y]? =some (.cells cur e (0,0))->∃cur',W'.heap[y]? =some (.cells cur' e (0,0))/\cur'.size=cur.size/\∀o,o<(n+m)*k->W'.cell? ⟨y,o,none⟩=wr.cell? ⟨y,o,none⟩):=λj hj aJ y hy=>by
  have cd7:y∈bs.flatten:=RF.2 ⟨_,Px aJ,hy⟩;have wy:=bM y cd7;by_cases tn:y∈b2
  ·rcases h4 with h4 | ⟨g',rfl,kq⟩
   ·rw [PR aB] at h4;injection h4 with h4;have bZ:j=i:=by
     rcases Nat.lt_trichotomy j i with hlt | rfl | hlt
     ·exact absurd (RF.2 ⟨bs[j],Yr.2 ⟨j,by omega,rfl⟩,hy⟩) (Z1 hnd aB (b:=y) (by rw [h4];exact tn))
     ·rfl
     exact absurd (RF.2 ⟨bs[i],Yr.2 ⟨i,by omega,rfl⟩,by rw [h4];exact tn⟩) (Z1 hnd aJ (b:=y) hy)
    exact .inr ⟨bZ,k4 y tn⟩
   rw [Ra] at tn;omega
  exact .inl (k3.block y (by omega) tn)
 refine ⟨g,cap',W',hr,⟨⟨⟨k3.os.trans h.gs.kx.os,k3.tape.trans h.gs.kx.tape,k3.output.trans h.gs.kx.output,PZ hsz k3.size,λy hy am=> ?_⟩,⟨h.gs.lis.1,λj hj aJ=> ?_⟩,λj hj=> ?_⟩,some ⟨g,0,none⟩,cap',b3,rfl,k1,?_⟩⟩
 ·refine (k3.block y (by omega) λtn=> ?_).trans (h.gs.kx.block y hy am);rcases h4 with h4 | ⟨g',rfl,kq⟩
  ·rw [PR aB] at h4;injection h4 with h4;exact am (RF.2 ⟨bs[i],Px aB,by rw [h4];exact tn⟩)
  rw [Ra] at tn;omega
 ·obtain ⟨jW,n5,cap5,q1,q2⟩:=h.gs.lis.2 j hj aJ;refine ⟨jW,n5,cap5,q1,?_⟩;rcases q2 with q2 | ⟨g5,B9,q2,q3,q4,q5,q6⟩
  ·exact .inl q2
  rcases aE j hj aJ g5 (by rw [q3];simp) with r | ⟨_,r⟩
  ·exact .inr ⟨g5,B9,q2,q3,r.trans q4,q5,q6⟩
  obtain ⟨aw2,c1,c2,_⟩:=r _ q4;exact .inr ⟨g5,aw2,q2,q3,c1,c2.trans q5,q6⟩
 ·obtain ⟨jW,n5,cap5,q1,q2,q3,q4⟩:=h.gs.brs j hj;refine ⟨jW,n5,cap5,q1,q2,q3,λp hp=> ?_⟩;obtain ⟨g5,rfl,q5⟩:=q4 p hp;refine ⟨g5,rfl,?_⟩;have aJ:j<bs.length:=by rw [h.gs.lis.1];exact hj
  obtain ⟨qe,n6,gG,s1,s2⟩:=h.gs.lis.2 j hj aJ;rw [q1] at s1;replace s1:=(RM s1).1;have F4:g5∈bs[j]:=by rw [s2.at s1.symm];simp
  rcases aE j hj aJ g5 F4 with r | ⟨rfl,r⟩
  ·exact (Qm r _).trans q5
  obtain ⟨_,B9,c5,_⟩:=Ki h.gs.lis hj q1;obtain ⟨_,_,_,c6⟩:=r _ c5;rw [c6 (p*k+off) ?_]
  ·exact q5
  rw [e1] at q1;injection q1 with _ q1;show p*k+off<(n+m)*k;have:(p+1)*k<=(n+m)*k:=ZE k (by omega);rw [TM,YF] at this;omega
 rcases k2 with rfl | ⟨rfl,hg⟩
 ·exact h4
 exact .inr ⟨g,rfl,by omega⟩
theorem Tryz.tyA:Ty 26 3 1 8:=by
 obtain ⟨i,hi,h0,h1,h2⟩:=info_parts (show (Tryz.prog.info? 3).map (λi=>(i.zero,i.size,i.bytes))=some (some (.int .i64 0),1,8) by kernel_rfl);exact ⟨Tryz.underlying26,⟨i,_,hi,h0,h1,h2,rfl⟩,by decide,by decide⟩
theorem Tryz.tyB:Ty 31 50 4 56:=by
 obtain ⟨i,hi,h0,h1,h2⟩:=info_parts (show (Tryz.prog.info? 50).map (λi=>(i.zero,i.size,i.bytes))=some (some (.agg #[.int .i64 0,.string ⟨#[]⟩,.int .i64 0,.slice none 0 0]),4,56) by kernel_rfl);exact ⟨Tryz.underlying31,⟨i,_,hi,h0,h1,h2,rfl⟩,by decide,by decide⟩
theorem Tryz.tyC:Ty 27 53 7 112:=by
 obtain ⟨i,hi,h0,h1,h2⟩:=info_parts (show (Tryz.prog.info? 53).map (λi=>(i.zero,i.size,i.bytes))=some (some (.agg #[.string ⟨#[]⟩,.int .i64 0,.int .i64 0,.int .i64 0,.slice none 0 0,.slice none 0 0,.slice none 0 0]),7,112) by kernel_rfl);exact ⟨Tryz.underlying27,⟨i,_,hi,h0,h1,h2,rfl⟩,by decide,by decide⟩
theorem Tryz.tyE:Ty 28 30 5 88:=by
 obtain ⟨i,hi,h0,h1,h2⟩:=info_parts (show (Tryz.prog.info? 30).map (λi=>(i.zero,i.size,i.bytes))=some (some (.agg #[.int .i64 0,.int .i64 0,.slice none 0 0,.slice none 0 0,.slice none 0 0]),5,88) by kernel_rfl);exact ⟨Tryz.underlying28,⟨i,_,hi,h0,h1,h2,rfl⟩,by decide,by decide⟩
end
section
structure Fo (la lb lc le:List Value)(ba bb bc be:List (List Nat))(w:World):Prop where
 a:QH w 1 3 la ba
 b:QH w 4 50 lb bb
 c:QH w 7 53 lc bc
 e:QH w 5 30 le be
 nd:(ba.flatten++(bb.flatten++(bc.flatten++be.flatten))).Nodup
def TA (L:List Value):Prop:=∀i (h:i<L.length) ad n cap,L[i]= .slice ad n cap->n<=1000000
def R5 (ba bb bc be:List (List Nat)):List Nat:=ba.flatten++(bb.flatten++(bc.flatten++be.flatten))
theorem Fo.nds {la lb lc le:List Value}{ba bb bc be:List (List Nat)}{w:World}(h:Fo la lb lc le ba bb bc be w):(ba.flatten.Nodup/\bb.flatten.Nodup/\bc.flatten.Nodup/\be.flatten.Nodup)/\(∀y∈ba.flatten,y∉bb.flatten/\y∉bc.flatten/\y∉be.flatten)/\(∀y∈bb.flatten,y∉bc.flatten/\y∉be.flatten)/\∀y∈bc.flatten,y∉be.flatten:=by
 have hn:=h.nd;simp only [S7] at hn;obtain ⟨n1,⟨n2,⟨n3,n4,d3⟩,d2⟩,d1⟩:=hn;refine ⟨⟨n1,n2,n3,n4⟩,λy hy=>⟨λh=>d1 y hy y (by simp only [PE];exact .inl h) rfl,λh=>d1 y hy y (by simp only [PE];exact .inr (.inl h)) rfl,λh=>d1 y hy y (by simp only [PE];exact .inr (.inr h)) rfl⟩,λy hy=>⟨λh=>d2 y hy y (by simp only [PE];exact .inl h) rfl,λh=>d2 y hy y (by simp only [PE];exact .inr h) rfl⟩,λy hy h=>d3 y hy y h rfl⟩
structure St (la lb lc le:List Value)(ba bb bc be:List (List Nat))(w:World)(j:Nat)(wr:World):Prop where
 kx:KxB (R5 ba bb bc be) w wr
 fo:Fo la lb lc le ba bb bc be wr
 a:0<j->SZ wr 1 0 la
 b:1<j->SZ wr 4 0 lb
 c:2<j->SZ wr 7 1 lc
 e:3<j->SZ wr 5 0 le
section
variable {la lb lc le:List Value}{ba bb bc be:List (List Nat)}{w w0 wr:World}{j:Nat}
theorem St.ka (h:St la lb lc le ba bb bc be w j w0)(hk:KxB ba.flatten w0 wr)(hl:QH wr 1 3 la ba)(hb:SZ wr 1 0 la):St la lb lc le ba bb bc be w (max j 1) wr:=by
 obtain ⟨_,d1,d2,d3⟩:=h.fo.nds;have mb:∀y∈bb.flatten,wr.heap[y]? =w0.heap[y]? :=λy hy=>hk.block y (h.fo.b.lt y hy) λq=>(d1 y q).1 hy;have mc:∀y∈bc.flatten,wr.heap[y]? =w0.heap[y]? :=λy hy=>hk.block y (h.fo.c.lt y hy) λq=>(d1 y q).2.1 hy;have me:∀y∈be.flatten,wr.heap[y]? =w0.heap[y]? :=λy hy=>hk.block y (h.fo.e.lt y hy) λq=>(d1 y q).2.2 hy;exact ⟨h.kx.trans (hk.up λy hy=>by unfold R5;simp only [PE];exact .inl hy),⟨hl,h.fo.b.on mb,h.fo.c.on mc,h.fo.e.on me,h.fo.nd⟩,λ_=>hb,λq=>h.fo.b.brs (h.b (by omega)) mb,λq=>h.fo.c.brs (h.c (by omega)) mc,λq=>h.fo.e.brs (h.e (by omega)) me⟩
theorem St.kb (h:St la lb lc le ba bb bc be w j w0)(hj:0<j)(hk:KxB bb.flatten w0 wr)(hl:QH wr 4 50 lb bb)(hb:SZ wr 4 0 lb):St la lb lc le ba bb bc be w (max j 2) wr:=by
 obtain ⟨_,d1,d2,d3⟩:=h.fo.nds;have ma:∀y∈ba.flatten,wr.heap[y]? =w0.heap[y]? :=λy hy=>hk.block y (h.fo.a.lt y hy) λq=>(d1 y hy).1 q;have mc:∀y∈bc.flatten,wr.heap[y]? =w0.heap[y]? :=λy hy=>hk.block y (h.fo.c.lt y hy) λq=>(d2 y q).1 hy;have me:∀y∈be.flatten,wr.heap[y]? =w0.heap[y]? :=λy hy=>hk.block y (h.fo.e.lt y hy) λq=>(d2 y q).2 hy;exact ⟨h.kx.trans (hk.up λy hy=>by unfold R5;simp only [PE];exact .inr (.inl hy)),⟨h.fo.a.on ma,hl,h.fo.c.on mc,h.fo.e.on me,h.fo.nd⟩,λ_=>h.fo.a.brs (h.a hj) ma,λ_=>hb,λq=>h.fo.c.brs (h.c (by omega)) mc,λq=>h.fo.e.brs (h.e (by omega)) me⟩
theorem St.kc (h:St la lb lc le ba bb bc be w j w0)(hj:1<j)(hk:KxB bc.flatten w0 wr)(hl:QH wr 7 53 lc bc)(hb:SZ wr 7 1 lc):St la lb lc le ba bb bc be w (max j 3) wr:=by
 obtain ⟨_,d1,d2,d3⟩:=h.fo.nds;have ma:∀y∈ba.flatten,wr.heap[y]? =w0.heap[y]? :=λy hy=>hk.block y (h.fo.a.lt y hy) λq=>(d1 y hy).2.1 q;have mb:∀y∈bb.flatten,wr.heap[y]? =w0.heap[y]? :=λy hy=>hk.block y (h.fo.b.lt y hy) λq=>(d2 y hy).1 q;have me:∀y∈be.flatten,wr.heap[y]? =w0.heap[y]? :=λy hy=>hk.block y (h.fo.e.lt y hy) λq=>d3 y q hy;exact ⟨h.kx.trans (hk.up λy hy=>by unfold R5;simp only [PE];exact .inr (.inr (.inl hy))),⟨h.fo.a.on ma,h.fo.b.on mb,hl,h.fo.e.on me,h.fo.nd⟩,λ_=>h.fo.a.brs (h.a (by omega)) ma,λ_=>h.fo.b.brs (h.b hj) mb,λ_=>hb,λq=>h.fo.e.brs (h.e (by omega)) me⟩
theorem St.ke (h:St la lb lc le ba bb bc be w j w0)(hj:2<j)(hk:KxB be.flatten w0 wr)(hl:QH wr 5 30 le be)(hb:SZ wr 5 0 le):St la lb lc le ba bb bc be w 4 wr:=by
 obtain ⟨_,d1,d2,d3⟩:=h.fo.nds;have ma:∀y∈ba.flatten,wr.heap[y]? =w0.heap[y]? :=λy hy=>hk.block y (h.fo.a.lt y hy) λq=>(d1 y hy).2.2 q;have mb:∀y∈bb.flatten,wr.heap[y]? =w0.heap[y]? :=λy hy=>hk.block y (h.fo.b.lt y hy) λq=>(d2 y hy).2 q;have mc:∀y∈bc.flatten,wr.heap[y]? =w0.heap[y]? :=λy hy=>hk.block y (h.fo.c.lt y hy) λq=>d3 y hy q;exact ⟨h.kx.trans (hk.up λy hy=>by unfold R5;simp only [PE];exact .inr (.inr (.inr hy))),⟨h.fo.a.on ma,h.fo.b.on mb,h.fo.c.on mc,hl,h.fo.nd⟩,λ_=>h.fo.a.brs (h.a (by omega)) ma,λ_=>h.fo.b.brs (h.b (by omega)) mb,λ_=>h.fo.c.brs (h.c hj) mc,λ_=>hb⟩
end
theorem Pz.kx {B P:Nat}{vs:List Value}{ls:List (List Value)}{w wr:World}{bl:List Nat}(h:Pz B P vs ls w)(hb:∀y∈bl,y<P)(hk:KxB bl w wr):Pz B P vs ls wr:=by
 refine ⟨h.low,h.n,h.n',(hk.block P (PV h.blk) λq=>by have:=hb P q;omega).trans h.blk,λi hi aB=>MC (h.own i hi aB) λy hy=> ?_,h.ap⟩;have hy2:=(h.own i hi aB).lt y hy;exact hk.block y hy2.2 λq=>by have:=hb y q;have:=h.low;omega
theorem Hz {w:World}{k e:Nat}{ad:Option Addr}{n cap:Nat}{bs:List Nat}(h:QG w k e ad n cap bs)(hn:0<n):∃g,ad=some ⟨g,0,none⟩:=by
 rcases h with ⟨_,h,_⟩ | ⟨g,_,h,_⟩
 ·omega
 exact ⟨g,h⟩
theorem Y8 {w:World}{k e:Nat}{ad:Option Addr}{n cap:Nat}{bs:List Nat}(h:QG w k e ad n cap bs):n<=cap:=by
 rcases h with ⟨_,h1,h2,_⟩ | ⟨_,_,_,_,_,_,h1,_⟩<;>omega
end
theorem cn1 {w:World}{B P:Nat}{a b c e:Value}{la lb lc le:List Value}{ba bb bc be:List (List Nat)}(hp:Pz B P [a,b,c,e] [la,lb,lc,le] w)(hf:Fo la lb lc le ba bb bc be w)(bM:∀y∈R5 ba bb bc be,y<P)(hs:TA la/\TA lb/\TA lc/\TA le)(hn:la.length<=1000000/\lb.length<=1000000/\lc.length<=1000000/\le.length<=1000000):
  Calls Tryz.prog 35 #[.pointer (some ⟨P,0,none⟩),.bool false] w λr w'=>r= .returned (.tuple #[])/\St la lb lc le ba bb bc be w 4 w':=by
 have oa:w.ownsRow B 26 1 a la.length la:=hp.own 0 (by simp) (by simp);have ob:w.ownsRow B 31 1 b lb.length lb:=hp.own 1 (by simp) (by simp);have oc:w.ownsRow B 27 1 c lc.length lc:=hp.own 2 (by simp) (by simp);have oe:w.ownsRow B 28 1 e le.length le:=hp.own 3 (by simp) (by simp);obtain ⟨aa,ka,rfl⟩:=UB oa;obtain ⟨ab,kb,rfl⟩:=UB ob;obtain ⟨ac,kc,rfl⟩:=UB oc;obtain ⟨ae,ke,rfl⟩:=UB oe;have rJ:Hid (∀wr,KxB (R5 ba bb bc be) w wr->Pz B P [.slice aa la.length ka,.slice ab lb.length kb,.slice ac lc.length kc,.slice ae le.length ke] [la,lb,lc,le] wr):=λwr hk=>hp.kx bM hk;have fT:=P4 hs;have kK:=P4 hf.nds.1;have i8:Hid (St la lb lc le ba bb bc be w 0 w):=⟨KxB.refl _ _,hf,λh=>absurd h (by omega),λh=>absurd h (by omega),λh=>absurd h (by omega),λh=>absurd h (by omega)⟩;obtain ⟨n1,n2,n3,n4⟩:=hn;clear hp hf bM hs oa ob oc oe;go_enter Tryz.func35,Tryz.ntmps35
 go_upto_region 2 with fail
 go_loopw [4] (λiv wr=>∃i:Nat,i<=la.length/\iv= .int .i64 i/\Hid (Mk 1 3 0 la ba w i 0 wr)) (λiv _=>la.length-(intOf iv).toNat)
 case atStart=>exact ⟨0,by omega,by go_num,Mk.start i8.fo.a⟩
 obtain ⟨i,hi,rfl,HM⟩:=hrel;have db:Hid (Pz B P [.slice aa la.length ka,.slice ab lb.length kb,.slice ac lc.length kc,.slice ae le.length ke] [la,lb,lc,le] wr):=rJ.out wr (i8.kx.trans (HM.kx.up λy hy=>by unfold R5;simp only [PE];exact .inl hy));have c0:wr.cell? ⟨P,0,none⟩=some (.slice aa la.length ka):=P0 db.blk rfl;by_cases ag:i<la.length
 ·obtain ⟨G,C,hG,pp,qr⟩:=Uv (show wr.ownsRow B 26 1 (.slice aa la.length ka) la.length la from db.own 0 (by simp) (by simp)) ag;obtain ⟨rfl,rfl⟩:aa=some ⟨G,0,none⟩/\ka=C:=by simpa using hG
  obtain ⟨ad,n,cap,hv,dg⟩:=HM.out.lis.2 i ag (by rw [HM.out.lis.1];exact ag);rw [hv] at qr;have HV:=P4 hv;have iY:=Y8 dg;have iO:n<=1000000:=fT.1 i ag ad n cap hv;have vw:Hid (0<n->∃g,ad=some ⟨g,0,none⟩):=λh=>Hz dg h;have i1:(0:Int)<=(i:Int):=by omega
  have i2:(i:Int)<(la.length:Int):=by omega
  clear hG hv dg db
  go_upto_region 5 with fail
  go_loopw [6] (λkv wr=>∃q:Nat,q<=n/\kv= .int .i64 q/\Hid (Mk 1 3 0 la ba w i q wr)) (λkv _=>n-(intOf kv).toNat)
  case atStart=>exact ⟨0,by omega,by go_num,HM.out⟩
  obtain ⟨q,sN,rfl,dJ⟩:=hrel;by_cases dZ:q<n
  ·obtain ⟨g,rfl⟩:=vw.out (by omega);obtain ⟨cur,y1,y2,kM⟩:=dJ.put kK.1 ag HV.out dZ [.int .i64 (-1000-(i:Int))] rfl rfl;obtain ⟨U,hU⟩:∃U,U=wr.setCells g (q*1) [.int .i64 (-1000-(i:Int))]:=⟨_,rfl⟩;rw [<-hU] at kM;have vx:=P4 kM;have x0:=P0 y1 (Rm (i:=q) (by omega));have z0:=Pp (o:=q) y1;simp only [World.setCells,R4] at hU;have i3:(0:Int)<=(q:Int):=by omega
   have i4:(q:Int)<(n:Int):=by omega
   clear kM y1 c0 qr HM dJ;go_wp2;rw [<-hU];exact ⟨⟨q+1,dZ,by go_num,vx.out⟩,by simp [intOf];omega⟩
  obtain rfl:q=n:=by omega
  have oY:Hid (Mk 1 3 0 la ba w (i+1) 0 wr):=dJ.next λh ad' n' cap' e'=>by
   have:=HV.out;rw [e'] at this;have:=(RM this).2.1;omega
  clear c0 qr HM dJ;go_wp2
  go_loopw [7] (λkv w9=>kv= .int .i64 0/\w9=wr) (λ_ _=>0)
  case atStart=>exact ⟨by go_num,rfl⟩
  obtain ⟨rfl,rfl⟩:=hrel;go_wp2;exact ⟨⟨i+1,ag,by go_num,oY.out⟩,by simp [intOf];omega⟩
 obtain rfl:i=la.length:=by omega
 have cG:=P4 (i8.ka HM.kx HM.lis (HM.brs fT.1));obtain ⟨w1,iu⟩:∃x,x=wr:=⟨_,rfl⟩;subst iu;clear HM db i8
 go_upto_region 14 with fail
 go_loopw [8] (λiv wr=>∃i:Nat,i<=lb.length/\iv= .int .i64 i/\Hid (Mk 4 50 0 lb bb w1 i 0 wr)) (λiv _=>lb.length-(intOf iv).toNat)
 case atStart=>exact ⟨0,by omega,by go_num,Mk.start cG.fo.b⟩
 obtain ⟨i,hi,rfl,HM⟩:=hrel;have db:Hid (Pz B P [.slice aa la.length ka,.slice ab lb.length kb,.slice ac lc.length kc,.slice ae le.length ke] [la,lb,lc,le] wr):=rJ.out wr (cG.kx.trans (HM.kx.up λy hy=>by unfold R5;simp only [PE];exact .inr (.inl hy)));have c0:wr.cell? ⟨P,1,none⟩=some (.slice ab lb.length kb):=P0 db.blk rfl;by_cases ag:i<lb.length
 ·obtain ⟨G,C,hG,pp,qr⟩:=Uv (show wr.ownsRow B 31 1 (.slice ab lb.length kb) lb.length lb from db.own 1 (by simp) (by simp)) ag;obtain ⟨rfl,rfl⟩:ab=some ⟨G,0,none⟩/\kb=C:=by simpa using hG
  obtain ⟨ad,n,cap,hv,dg⟩:=HM.out.lis.2 i ag (by rw [HM.out.lis.1];exact ag);rw [hv] at qr;have HV:=P4 hv;have iY:=Y8 dg;have iO:n<=1000000:=fT.2.1 i ag ad n cap hv;have vw:Hid (0<n->∃g,ad=some ⟨g,0,none⟩):=λh=>Hz dg h;have i1:(0:Int)<=(i:Int):=by omega
  have i2:(i:Int)<(lb.length:Int):=by omega
  clear hG hv dg db
  go_upto_region 17 with fail
  go_loopw [10] (λkv wr=>∃q:Nat,q<=n/\kv= .int .i64 q/\Hid (Mk 4 50 0 lb bb w1 i q wr)) (λkv _=>n-(intOf kv).toNat)
  case atStart=>exact ⟨0,by omega,by go_num,HM.out⟩
  obtain ⟨q,sN,rfl,dJ⟩:=hrel;by_cases dZ:q<n
  ·obtain ⟨g,rfl⟩:=vw.out (by omega);obtain ⟨cur,y1,y2,kM⟩:=dJ.put kK.2.1 ag HV.out dZ [.int .i64 (-1000-(i:Int)),.string ⟨#[]⟩,.int .i64 0,.slice none 0 0] rfl rfl;obtain ⟨U,hU⟩:∃U,U=wr.setCells g (q*4) [.int .i64 (-1000-(i:Int)),.string ⟨#[]⟩,.int .i64 0,.slice none 0 0]:=⟨_,rfl⟩;rw [<-hU] at kM;have vx:=P4 kM;have x0:=P0 y1 (Rm (i:=q*4) (by omega));have z0:=Pp (o:=q*4) y1;have x1:=P0 y1 (Rm (i:=q*4+1) (by omega));have z1:=Pp (o:=q*4+1) y1;have x2:=P0 y1 (Rm (i:=q*4+2) (by omega));have z2:=Pp (o:=q*4+2) y1;have x3:=P0 y1 (Rm (i:=q*4+3) (by omega));have z3:=Pp (o:=q*4+3) y1;simp only [World.setCells,YQ,Nat.reduceAdd] at hU;have i3:(0:Int)<=(q:Int):=by omega
   have i4:(q:Int)<(n:Int):=by omega
   clear kM y1 c0 qr HM dJ;go_wp2;rw [<-hU];exact ⟨⟨q+1,dZ,by go_num,vx.out⟩,by simp [intOf];omega⟩
  obtain rfl:q=n:=by omega
  have oY:Hid (Mk 4 50 0 lb bb w1 (i+1) 0 wr):=dJ.next λh ad' n' cap' e'=>by
   have:=HV.out;rw [e'] at this;have:=(RM this).2.1;omega
  clear c0 qr HM dJ;go_wp2
  go_loopw [11] (λkv w9=>kv= .int .i64 0/\w9=wr) (λ_ _=>0)
  case atStart=>exact ⟨by go_num,rfl⟩
  obtain ⟨rfl,rfl⟩:=hrel;go_wp2;exact ⟨⟨i+1,ag,by go_num,oY.out⟩,by simp [intOf];omega⟩
 obtain rfl:i=lb.length:=by omega
 have bQ:=P4 (cG.kb (by omega) HM.kx HM.lis (HM.brs fT.2.1));obtain ⟨w2,hw2⟩:∃x,x=wr:=⟨_,rfl⟩;subst hw2;clear HM db cG
 go_upto_region 26 with fail
 go_loopw [12] (λiv wr=>∃i:Nat,i<=lc.length/\iv= .int .i64 i/\Hid (Mk 7 53 1 lc bc w2 i 0 wr)) (λiv _=>lc.length-(intOf iv).toNat)
 case atStart=>exact ⟨0,by omega,by go_num,Mk.start bQ.fo.c⟩
 obtain ⟨i,hi,rfl,HM⟩:=hrel;have db:Hid (Pz B P [.slice aa la.length ka,.slice ab lb.length kb,.slice ac lc.length kc,.slice ae le.length ke] [la,lb,lc,le] wr):=rJ.out wr (bQ.kx.trans (HM.kx.up λy hy=>by unfold R5;simp only [PE];exact .inr (.inr (.inl hy))));have c0:wr.cell? ⟨P,2,none⟩=some (.slice ac lc.length kc):=P0 db.blk rfl;by_cases ag:i<lc.length
 ·obtain ⟨G,C,hG,pp,qr⟩:=Uv (show wr.ownsRow B 27 1 (.slice ac lc.length kc) lc.length lc from db.own 2 (by simp) (by simp)) ag;obtain ⟨rfl,rfl⟩:ac=some ⟨G,0,none⟩/\kc=C:=by simpa using hG
  obtain ⟨ad,n,cap,hv,dg⟩:=HM.out.lis.2 i ag (by rw [HM.out.lis.1];exact ag);rw [hv] at qr;have HV:=P4 hv;have iY:=Y8 dg;have iO:n<=1000000:=fT.2.2.1 i ag ad n cap hv;have vw:Hid (0<n->∃g,ad=some ⟨g,0,none⟩):=λh=>Hz dg h;have i1:(0:Int)<=(i:Int):=by omega
  have i2:(i:Int)<(lc.length:Int):=by omega
  clear hG hv dg db
  go_upto_region 29 with fail
  go_loopw [14] (λkv wr=>∃q:Nat,q<=n/\kv= .int .i64 q/\Hid (Mk 7 53 1 lc bc w2 i q wr)) (λkv _=>n-(intOf kv).toNat)
  case atStart=>exact ⟨0,by omega,by go_num,HM.out⟩
  obtain ⟨q,sN,rfl,dJ⟩:=hrel;by_cases dZ:q<n
  ·obtain ⟨g,rfl⟩:=vw.out (by omega);obtain ⟨cur,y1,y2,kM⟩:=dJ.put kK.2.2.1 ag HV.out dZ [.string ⟨#[]⟩,.int .i64 (-1000-(i:Int)),.int .i64 0,.int .i64 0,.slice none 0 0,.slice none 0 0,.slice none 0 0] rfl rfl;obtain ⟨U,hU⟩:∃U,U=wr.setCells g (q*7) [.string ⟨#[]⟩,.int .i64 (-1000-(i:Int)),.int .i64 0,.int .i64 0,.slice none 0 0,.slice none 0 0,.slice none 0 0]:=⟨_,rfl⟩;rw [<-hU] at kM;have vx:=P4 kM;have x0:=P0 y1 (Rm (i:=q*7) (by omega));have z0:=Pp (o:=q*7) y1;have x1:=P0 y1 (Rm (i:=q*7+1) (by omega));have z1:=Pp (o:=q*7+1) y1;have x2:=P0 y1 (Rm (i:=q*7+2) (by omega));have z2:=Pp (o:=q*7+2) y1;have x3:=P0 y1 (Rm (i:=q*7+3) (by omega));have z3:=Pp (o:=q*7+3) y1;have x4:=P0 y1 (Rm (i:=q*7+4) (by omega));have z4:=Pp (o:=q*7+4) y1;have x5:=P0 y1 (Rm (i:=q*7+5) (by omega));have z5:=Pp (o:=q*7+5) y1;have x6:=P0 y1 (Rm (i:=q*7+6) (by omega));have z6:=Pp (o:=q*7+6) y1;simp only [World.setCells,YQ,Nat.reduceAdd] at hU;have i3:(0:Int)<=(q:Int):=by omega
   have i4:(q:Int)<(n:Int):=by omega
   clear kM y1 c0 qr HM dJ;go_wp2;rw [<-hU];exact ⟨⟨q+1,dZ,by go_num,vx.out⟩,by simp [intOf];omega⟩
  obtain rfl:q=n:=by omega
  have oY:Hid (Mk 7 53 1 lc bc w2 (i+1) 0 wr):=dJ.next λh ad' n' cap' e'=>by
   have:=HV.out;rw [e'] at this;have:=(RM this).2.1;omega
  clear c0 qr HM dJ;go_wp2
  go_loopw [15] (λkv w9=>kv= .int .i64 0/\w9=wr) (λ_ _=>0)
  case atStart=>exact ⟨by go_num,rfl⟩
  obtain ⟨rfl,rfl⟩:=hrel;go_wp2;exact ⟨⟨i+1,ag,by go_num,oY.out⟩,by simp [intOf];omega⟩
 obtain rfl:i=lc.length:=by omega
 have pq:=P4 (bQ.kc (by omega) HM.kx HM.lis (HM.brs fT.2.2.1));obtain ⟨w3,hw3⟩:∃x,x=wr:=⟨_,rfl⟩;subst hw3;clear HM db bQ
 go_upto_region 38 with fail
 go_loopw [16] (λiv wr=>∃i:Nat,i<=le.length/\iv= .int .i64 i/\Hid (Mk 5 30 0 le be w3 i 0 wr)) (λiv _=>le.length-(intOf iv).toNat)
 case atStart=>exact ⟨0,by omega,by go_num,Mk.start pq.fo.e⟩
 obtain ⟨i,hi,rfl,HM⟩:=hrel;have db:Hid (Pz B P [.slice aa la.length ka,.slice ab lb.length kb,.slice ac lc.length kc,.slice ae le.length ke] [la,lb,lc,le] wr):=rJ.out wr (pq.kx.trans (HM.kx.up λy hy=>by unfold R5;simp only [PE];exact .inr (.inr (.inr hy))));have c0:wr.cell? ⟨P,3,none⟩=some (.slice ae le.length ke):=P0 db.blk rfl;by_cases ag:i<le.length
 ·obtain ⟨G,C,hG,pp,qr⟩:=Uv (show wr.ownsRow B 28 1 (.slice ae le.length ke) le.length le from db.own 3 (by simp) (by simp)) ag;obtain ⟨rfl,rfl⟩:ae=some ⟨G,0,none⟩/\ke=C:=by simpa using hG
  obtain ⟨ad,n,cap,hv,dg⟩:=HM.out.lis.2 i ag (by rw [HM.out.lis.1];exact ag);rw [hv] at qr;have HV:=P4 hv;have iY:=Y8 dg;have iO:n<=1000000:=fT.2.2.2 i ag ad n cap hv;have vw:Hid (0<n->∃g,ad=some ⟨g,0,none⟩):=λh=>Hz dg h;have i1:(0:Int)<=(i:Int):=by omega
  have i2:(i:Int)<(le.length:Int):=by omega
  clear hG hv dg db
  go_upto_region 41 with fail
  go_loopw [18] (λkv wr=>∃q:Nat,q<=n/\kv= .int .i64 q/\Hid (Mk 5 30 0 le be w3 i q wr)) (λkv _=>n-(intOf kv).toNat)
  case atStart=>exact ⟨0,by omega,by go_num,HM.out⟩
  obtain ⟨q,sN,rfl,dJ⟩:=hrel;by_cases dZ:q<n
  ·obtain ⟨g,rfl⟩:=vw.out (by omega);obtain ⟨cur,y1,y2,kM⟩:=dJ.put kK.2.2.2 ag HV.out dZ [.int .i64 (-1000-(i:Int)),.int .i64 0,.slice none 0 0,.slice none 0 0,.slice none 0 0] rfl rfl;obtain ⟨U,hU⟩:∃U,U=wr.setCells g (q*5) [.int .i64 (-1000-(i:Int)),.int .i64 0,.slice none 0 0,.slice none 0 0,.slice none 0 0]:=⟨_,rfl⟩;rw [<-hU] at kM;have vx:=P4 kM;have x0:=P0 y1 (Rm (i:=q*5) (by omega));have z0:=Pp (o:=q*5) y1;have x1:=P0 y1 (Rm (i:=q*5+1) (by omega));have z1:=Pp (o:=q*5+1) y1;have x2:=P0 y1 (Rm (i:=q*5+2) (by omega));have z2:=Pp (o:=q*5+2) y1;have x3:=P0 y1 (Rm (i:=q*5+3) (by omega));have z3:=Pp (o:=q*5+3) y1;have x4:=P0 y1 (Rm (i:=q*5+4) (by omega));have z4:=Pp (o:=q*5+4) y1;simp only [World.setCells,YQ,Nat.reduceAdd] at hU;have i3:(0:Int)<=(q:Int):=by omega
   have i4:(q:Int)<(n:Int):=by omega
   clear kM y1 c0 qr HM dJ;go_wp2;rw [<-hU];exact ⟨⟨q+1,dZ,by go_num,vx.out⟩,by simp [intOf];omega⟩
  obtain rfl:q=n:=by omega
  have oY:Hid (Mk 5 30 0 le be w3 (i+1) 0 wr):=dJ.next λh ad' n' cap' e'=>by
   have:=HV.out;rw [e'] at this;have:=(RM this).2.1;omega
  clear c0 qr HM dJ;go_wp2
  go_loopw [19] (λkv w9=>kv= .int .i64 0/\w9=wr) (λ_ _=>0)
  case atStart=>exact ⟨by go_num,rfl⟩
  obtain ⟨rfl,rfl⟩:=hrel;go_wp2;exact ⟨⟨i+1,ag,by go_num,oY.out⟩,by simp [intOf];omega⟩
 obtain rfl:i=le.length:=by omega
 have n7:=P4 (pq.ke (by omega) HM.kx HM.lis (HM.brs fT.2.2.2));obtain ⟨w4,uu⟩:∃x,x=wr:=⟨_,rfl⟩;subst uu;clear HM db pq;go_wp2;refine Yq (v:= .tuple #[]) (by simp [results,Tryz.results35,go_sem]) rfl ?_;exact ⟨rfl,n7.out⟩
theorem cq1 {w:World}{B P:Nat}{a b c e:Value}{la lb lc le:List Value}{ba bb bc be:List (List Nat)}(hp:Pz B P [a,b,c,e] [la,lb,lc,le] w)(hf:Fo la lb lc le ba bb bc be w)(h1:SZ w 1 0 la)(h2:SZ w 4 0 lb)(h3:SZ w 7 1 lc)(h4:SZ w 5 0 le)(bM:∀y∈R5 ba bb bc be,y<P)(hs:TA la/\TA lb/\TA lc/\TA le)(hn:la.length<=1000000/\lb.length<=1000000/\lc.length<=1000000/\le.length<=1000000):
  Calls Tryz.prog 35 #[.pointer (some ⟨P,0,none⟩),.bool true] w λr w'=>r= .returned (.tuple #[])/\St la lb lc le ba bb bc be w 4 w':=by
 have oa:w.ownsRow B 26 1 a la.length la:=hp.own 0 (by simp) (by simp);have ob:w.ownsRow B 31 1 b lb.length lb:=hp.own 1 (by simp) (by simp);have oc:w.ownsRow B 27 1 c lc.length lc:=hp.own 2 (by simp) (by simp);have oe:w.ownsRow B 28 1 e le.length le:=hp.own 3 (by simp) (by simp);obtain ⟨aa,ka,rfl⟩:=UB oa;obtain ⟨ab,kb,rfl⟩:=UB ob;obtain ⟨ac,kc,rfl⟩:=UB oc;obtain ⟨ae,ke,rfl⟩:=UB oe;have rJ:Hid (∀wr,KxB (R5 ba bb bc be) w wr->Pz B P [.slice aa la.length ka,.slice ab lb.length kb,.slice ac lc.length kc,.slice ae le.length ke] [la,lb,lc,le] wr):=λwr hk=>hp.kx bM hk;have fT:=P4 hs;have kK:=P4 hf.nds.1;have i8:Hid (St la lb lc le ba bb bc be w 4 w):=⟨KxB.refl _ _,hf,λ_=>h1,λ_=>h2,λ_=>h3,λ_=>h4⟩;have ac6:=P4 bM;have BQ:=P4 (PV hp.blk);obtain ⟨n1,n2,n3,n4⟩:=hn;clear hp hf bM hs oa ob oc oe h1 h2 h3 h4;go_enter Tryz.func35,Tryz.ntmps35;have Ba:=P4 i8.fo.a.lt
 go_upto_region 2 with fail
 go_loopw [4,5] (λiv lv wr=>∃i:Nat,i<=la.length/\iv= .int .i64 i/\Hid (Gs 1 3 0 la ba w wr)) (λiv _ _=>la.length-(intOf iv).toNat)
 case atStart=>exact ⟨0,by omega,by go_num,⟨KxB.refl _ _,i8.fo.a,i8.a (by omega)⟩⟩
 obtain ⟨i,hi,rfl,HM⟩:=hrel;have db:Hid (Pz B P [.slice aa la.length ka,.slice ab lb.length kb,.slice ac lc.length kc,.slice ae le.length ke] [la,lb,lc,le] wr):=rJ.out wr (i8.kx.trans (HM.kx.up λy hy=>by unfold R5;simp only [PE];exact .inl hy));have c0:wr.cell? ⟨P,0,none⟩=some (.slice aa la.length ka):=P0 db.blk rfl;by_cases ag:i<la.length
 ·obtain ⟨G,C,hG,pp,qr⟩:=Uv (show wr.ownsRow B 26 1 (.slice aa la.length ka) la.length la from db.own 0 (by simp) (by simp)) ag;obtain ⟨rfl,rfl⟩:aa=some ⟨G,0,none⟩/\ka=C:=by simpa using hG
  obtain ⟨ad,n,cap,hv,dg⟩:=HM.out.lis.2 i ag (by rw [HM.out.lis.1];exact ag);rw [hv] at qr;have HV:=P4 hv;have iY:=Y8 dg;have iO:n<=1000000:=fT.1 i ag ad n cap hv;have fj:=P4 (HM.at ag hv);have i1:(0:Int)<=(i:Int):=by omega
  have i2:(i:Int)<(la.length:Int):=by omega
  clear hG hv dg db
  go_upto_region 5 with fail
  go_loopw [6] (λkv w9=>kv= .int .i64 0/\w9=wr) (λ_ _=>0)
  case atStart=>exact ⟨by go_num,rfl⟩
  obtain ⟨rfl,vy⟩:=hrel;subst vy;clear c0 qr HM;by_cases gy:n=0
  ·subst gy
   go_upto_region 9 with fail
   go_loopw [5,7] (λlv kv wr=>∃(m:Nat) (ad':Option Addr) (cap':Nat),m<=5/\kv= .int .i64 m/\lv= .slice ad' (0+m) cap'/\Hid (Gw 1 3 0 la ba w i 0 m (.slice ad' (0+m) cap') wr)) (λ_ kv _=>5-(intOf kv).toNat)
   case atStart=>exact ⟨0,ad,cap,by omega,by go_num,rfl,fj.out⟩
   obtain ⟨m,ad',cap',hm,rfl,rfl,HG⟩:=hrel;by_cases dq:m<5
   ·obtain ⟨g9,cC,W9,d8,gK⟩:=HG.put Tryz.tyA (by omega) Ba.out kK.1 ag HV.out iO dq [.int .i64 (-7)] rfl (by intro u hu;simp only [Qa,Sf,Si] at hu;rcases hu with rfl<;>rfl) 26;have kN:=P4 gK;have m1:(m:Int)<5:=by omega
    have m0:(0:Int)<=(m:Int):=by omega
    clear gK HG fj
    go_wp2_with (at_builtin;refine Lib.wpList_append_run _ rfl _ _ _ _ rfl _ _ rfl rfl _ _ d8 ?_)
    exact ⟨⟨m+1,some ⟨g9,0,none⟩,cC,dq,by go_num,by rw [Rp],kN.out⟩,by simp [intOf];omega⟩
   obtain rfl:m=5:=by omega
   have jq:=P4 HG.gs;clear HG fj;go_wp2;exact ⟨⟨i+1,ag,by go_num,jq.out⟩,by simp [intOf];omega⟩
  have G5:(0:Int)<(n:Int):=by omega
  go_upto_region 9 with fail
  go_loopw [5,7] (λlv kv wr=>∃(m:Nat) (ad':Option Addr) (cap':Nat),m<=5/\kv= .int .i64 m/\lv= .slice ad' (n+m) cap'/\Hid (Gw 1 3 0 la ba w i n m (.slice ad' (n+m) cap') wr)) (λ_ kv _=>5-(intOf kv).toNat)
  case atStart=>exact ⟨0,ad,cap,by omega,by go_num,rfl,fj.out⟩
  obtain ⟨m,ad',cap',hm,rfl,rfl,HG⟩:=hrel;by_cases dq:m<5
  ·obtain ⟨g9,cC,W9,d8,gK⟩:=HG.put Tryz.tyA (by omega) Ba.out kK.1 ag HV.out iO dq [.int .i64 (-7)] rfl (by intro u hu;simp only [Qa,Sf,Si] at hu;rcases hu with rfl<;>rfl) 26;have kN:=P4 gK;have m1:(m:Int)<5:=by omega
   have m0:(0:Int)<=(m:Int):=by omega
   clear gK HG fj
   go_wp2_with (at_builtin;refine Lib.wpList_append_run _ rfl _ _ _ _ rfl _ _ rfl rfl _ _ d8 ?_)
   exact ⟨⟨m+1,some ⟨g9,0,none⟩,cC,dq,by go_num,rfl,kN.out⟩,by simp [intOf];omega⟩
  obtain rfl:m=5:=by omega
  have jq:=P4 HG.gs;clear HG fj;go_wp2;exact ⟨⟨i+1,ag,by go_num,jq.out⟩,by simp [intOf];omega⟩
 obtain rfl:i=la.length:=by omega
 have cG:=P4 (i8.ka HM.kx HM.lis HM.brs);obtain ⟨w1,iu⟩:∃x,x=wr:=⟨_,rfl⟩;subst iu;clear HM db i8;have Bb:=P4 cG.fo.b.lt
 go_upto_region 14 with fail
 go_loopw [8,9] (λiv lv wr=>∃i:Nat,i<=lb.length/\iv= .int .i64 i/\Hid (Gs 4 50 0 lb bb w1 wr)) (λiv _ _=>lb.length-(intOf iv).toNat)
 case atStart=>exact ⟨0,by omega,by go_num,⟨KxB.refl _ _,cG.fo.b,cG.b (by omega)⟩⟩
 obtain ⟨i,hi,rfl,HM⟩:=hrel;have db:Hid (Pz B P [.slice aa la.length ka,.slice ab lb.length kb,.slice ac lc.length kc,.slice ae le.length ke] [la,lb,lc,le] wr):=rJ.out wr (cG.kx.trans (HM.kx.up λy hy=>by unfold R5;simp only [PE];exact .inr (.inl hy)));have c0:wr.cell? ⟨P,1,none⟩=some (.slice ab lb.length kb):=P0 db.blk rfl;by_cases ag:i<lb.length
 ·obtain ⟨G,C,hG,pp,qr⟩:=Uv (show wr.ownsRow B 31 1 (.slice ab lb.length kb) lb.length lb from db.own 1 (by simp) (by simp)) ag;obtain ⟨rfl,rfl⟩:ab=some ⟨G,0,none⟩/\kb=C:=by simpa using hG
  obtain ⟨ad,n,cap,hv,dg⟩:=HM.out.lis.2 i ag (by rw [HM.out.lis.1];exact ag);rw [hv] at qr;have HV:=P4 hv;have iY:=Y8 dg;have iO:n<=1000000:=fT.2.1 i ag ad n cap hv;have fj:=P4 (HM.at ag hv);have i1:(0:Int)<=(i:Int):=by omega
  have i2:(i:Int)<(lb.length:Int):=by omega
  clear hG hv dg db
  go_upto_region 17 with fail
  go_loopw [10] (λkv w9=>kv= .int .i64 0/\w9=wr) (λ_ _=>0)
  case atStart=>exact ⟨by go_num,rfl⟩
  obtain ⟨rfl,vy⟩:=hrel;subst vy;clear c0 qr HM;by_cases gy:n=0
  ·subst gy
   go_upto_region 21 with fail
   go_loopw [9,11] (λlv kv wr=>∃(m:Nat) (ad':Option Addr) (cap':Nat),m<=5/\kv= .int .i64 m/\lv= .slice ad' (0+m) cap'/\Hid (Gw 4 50 0 lb bb w1 i 0 m (.slice ad' (0+m) cap') wr)) (λ_ kv _=>5-(intOf kv).toNat)
   case atStart=>exact ⟨0,ad,cap,by omega,by go_num,rfl,fj.out⟩
   obtain ⟨m,ad',cap',hm,rfl,rfl,HG⟩:=hrel;by_cases dq:m<5
   ·obtain ⟨g9,cC,W9,d8,gK⟩:=HG.put Tryz.tyB (by omega) Bb.out kK.2.1 ag HV.out iO dq [.int .i64 (-7),.string ⟨#[]⟩,.int .i64 0,.slice none 0 0] rfl (by intro u hu;simp only [Qa,Sf,Si] at hu;rcases hu with rfl | rfl | rfl | rfl<;>rfl) 31;have kN:=P4 gK;have m1:(m:Int)<5:=by omega
    have m0:(0:Int)<=(m:Int):=by omega
    clear gK HG fj
    go_wp2_with (at_builtin;refine Lib.wpList_append_run _ rfl _ _ _ _ rfl _ _ rfl rfl _ _ d8 ?_)
    exact ⟨⟨m+1,some ⟨g9,0,none⟩,cC,dq,by go_num,by rw [Rp],kN.out⟩,by simp [intOf];omega⟩
   obtain rfl:m=5:=by omega
   have jq:=P4 HG.gs;clear HG fj;go_wp2;exact ⟨⟨i+1,ag,by go_num,jq.out⟩,by simp [intOf];omega⟩
  have G5:(0:Int)<(n:Int):=by omega
  go_upto_region 21 with fail
  go_loopw [9,11] (λlv kv wr=>∃(m:Nat) (ad':Option Addr) (cap':Nat),m<=5/\kv= .int .i64 m/\lv= .slice ad' (n+m) cap'/\Hid (Gw 4 50 0 lb bb w1 i n m (.slice ad' (n+m) cap') wr)) (λ_ kv _=>5-(intOf kv).toNat)
  case atStart=>exact ⟨0,ad,cap,by omega,by go_num,rfl,fj.out⟩
  obtain ⟨m,ad',cap',hm,rfl,rfl,HG⟩:=hrel;by_cases dq:m<5
  ·obtain ⟨g9,cC,W9,d8,gK⟩:=HG.put Tryz.tyB (by omega) Bb.out kK.2.1 ag HV.out iO dq [.int .i64 (-7),.string ⟨#[]⟩,.int .i64 0,.slice none 0 0] rfl (by intro u hu;simp only [Qa,Sf,Si] at hu;rcases hu with rfl | rfl | rfl | rfl<;>rfl) 31;have kN:=P4 gK;have m1:(m:Int)<5:=by omega
   have m0:(0:Int)<=(m:Int):=by omega
   clear gK HG fj
   go_wp2_with (at_builtin;refine Lib.wpList_append_run _ rfl _ _ _ _ rfl _ _ rfl rfl _ _ d8 ?_)
   exact ⟨⟨m+1,some ⟨g9,0,none⟩,cC,dq,by go_num,rfl,kN.out⟩,by simp [intOf];omega⟩
  obtain rfl:m=5:=by omega
  have jq:=P4 HG.gs;clear HG fj;go_wp2;exact ⟨⟨i+1,ag,by go_num,jq.out⟩,by simp [intOf];omega⟩
 obtain rfl:i=lb.length:=by omega
 have bQ:=P4 (cG.kb (by omega) HM.kx HM.lis HM.brs);obtain ⟨w2,hw2⟩:∃x,x=wr:=⟨_,rfl⟩;subst hw2;clear HM db cG;have Bc:=P4 bQ.fo.c.lt
 go_upto_region 26 with fail
 go_loopw [12,13] (λiv lv wr=>∃i:Nat,i<=lc.length/\iv= .int .i64 i/\Hid (Gs 7 53 1 lc bc w2 wr)) (λiv _ _=>lc.length-(intOf iv).toNat)
 case atStart=>exact ⟨0,by omega,by go_num,⟨KxB.refl _ _,bQ.fo.c,bQ.c (by omega)⟩⟩
 obtain ⟨i,hi,rfl,HM⟩:=hrel;have db:Hid (Pz B P [.slice aa la.length ka,.slice ab lb.length kb,.slice ac lc.length kc,.slice ae le.length ke] [la,lb,lc,le] wr):=rJ.out wr (bQ.kx.trans (HM.kx.up λy hy=>by unfold R5;simp only [PE];exact .inr (.inr (.inl hy))));have c0:wr.cell? ⟨P,2,none⟩=some (.slice ac lc.length kc):=P0 db.blk rfl;by_cases ag:i<lc.length
 ·obtain ⟨G,C,hG,pp,qr⟩:=Uv (show wr.ownsRow B 27 1 (.slice ac lc.length kc) lc.length lc from db.own 2 (by simp) (by simp)) ag;obtain ⟨rfl,rfl⟩:ac=some ⟨G,0,none⟩/\kc=C:=by simpa using hG
  obtain ⟨ad,n,cap,hv,dg⟩:=HM.out.lis.2 i ag (by rw [HM.out.lis.1];exact ag);rw [hv] at qr;have HV:=P4 hv;have iY:=Y8 dg;have iO:n<=1000000:=fT.2.2.1 i ag ad n cap hv;have fj:=P4 (HM.at ag hv);have i1:(0:Int)<=(i:Int):=by omega
  have i2:(i:Int)<(lc.length:Int):=by omega
  clear hG hv dg db
  go_upto_region 29 with fail
  go_loopw [14] (λkv w9=>kv= .int .i64 0/\w9=wr) (λ_ _=>0)
  case atStart=>exact ⟨by go_num,rfl⟩
  obtain ⟨rfl,vy⟩:=hrel;subst vy;clear c0 qr HM;by_cases gy:n=0
  ·subst gy
   go_upto_region 33 with fail
   go_loopw [13,15] (λlv kv wr=>∃(m:Nat) (ad':Option Addr) (cap':Nat),m<=5/\kv= .int .i64 m/\lv= .slice ad' (0+m) cap'/\Hid (Gw 7 53 1 lc bc w2 i 0 m (.slice ad' (0+m) cap') wr)) (λ_ kv _=>5-(intOf kv).toNat)
   case atStart=>exact ⟨0,ad,cap,by omega,by go_num,rfl,fj.out⟩
   obtain ⟨m,ad',cap',hm,rfl,rfl,HG⟩:=hrel;by_cases dq:m<5
   ·obtain ⟨g9,cC,W9,d8,gK⟩:=HG.put Tryz.tyC (by omega) Bc.out kK.2.2.1 ag HV.out iO dq [.string ⟨#[]⟩,.int .i64 (-7),.int .i64 0,.int .i64 0,.slice none 0 0,.slice none 0 0,.slice none 0 0] rfl (by intro u hu;simp only [Qa,Sf,Si] at hu;rcases hu with rfl | rfl | rfl | rfl | rfl | rfl | rfl<;>rfl) 27;have kN:=P4 gK;have m1:(m:Int)<5:=by omega
    have m0:(0:Int)<=(m:Int):=by omega
    clear gK HG fj
    go_wp2_with (at_builtin;refine Lib.wpList_append_run _ rfl _ _ _ _ rfl _ _ rfl rfl _ _ d8 ?_)
    exact ⟨⟨m+1,some ⟨g9,0,none⟩,cC,dq,by go_num,by rw [Rp],kN.out⟩,by simp [intOf];omega⟩
   obtain rfl:m=5:=by omega
   have jq:=P4 HG.gs;clear HG fj;go_wp2;exact ⟨⟨i+1,ag,by go_num,jq.out⟩,by simp [intOf];omega⟩
  have G5:(0:Int)<(n:Int):=by omega
  go_upto_region 33 with fail
  go_loopw [13,15] (λlv kv wr=>∃(m:Nat) (ad':Option Addr) (cap':Nat),m<=5/\kv= .int .i64 m/\lv= .slice ad' (n+m) cap'/\Hid (Gw 7 53 1 lc bc w2 i n m (.slice ad' (n+m) cap') wr)) (λ_ kv _=>5-(intOf kv).toNat)
  case atStart=>exact ⟨0,ad,cap,by omega,by go_num,rfl,fj.out⟩
  obtain ⟨m,ad',cap',hm,rfl,rfl,HG⟩:=hrel;by_cases dq:m<5
  ·obtain ⟨g9,cC,W9,d8,gK⟩:=HG.put Tryz.tyC (by omega) Bc.out kK.2.2.1 ag HV.out iO dq [.string ⟨#[]⟩,.int .i64 (-7),.int .i64 0,.int .i64 0,.slice none 0 0,.slice none 0 0,.slice none 0 0] rfl (by intro u hu;simp only [Qa,Sf,Si] at hu;rcases hu with rfl | rfl | rfl | rfl | rfl | rfl | rfl<;>rfl) 27;have kN:=P4 gK;have m1:(m:Int)<5:=by omega
   have m0:(0:Int)<=(m:Int):=by omega
   clear gK HG fj
   go_wp2_with (at_builtin;refine Lib.wpList_append_run _ rfl _ _ _ _ rfl _ _ rfl rfl _ _ d8 ?_)
   exact ⟨⟨m+1,some ⟨g9,0,none⟩,cC,dq,by go_num,rfl,kN.out⟩,by simp [intOf];omega⟩
  obtain rfl:m=5:=by omega
  have jq:=P4 HG.gs;clear HG fj;go_wp2;exact ⟨⟨i+1,ag,by go_num,jq.out⟩,by simp [intOf];omega⟩
 obtain rfl:i=lc.length:=by omega
 have pq:=P4 (bQ.kc (by omega) HM.kx HM.lis HM.brs);obtain ⟨w3,hw3⟩:∃x,x=wr:=⟨_,rfl⟩;subst hw3;clear HM db bQ;have Bd:=P4 pq.fo.e.lt
 go_upto_region 38 with fail
 go_loopw [16,17] (λiv lv wr=>∃i:Nat,i<=le.length/\iv= .int .i64 i/\Hid (Gs 5 30 0 le be w3 wr)) (λiv _ _=>le.length-(intOf iv).toNat)
 case atStart=>exact ⟨0,by omega,by go_num,⟨KxB.refl _ _,pq.fo.e,pq.e (by omega)⟩⟩
 obtain ⟨i,hi,rfl,HM⟩:=hrel;have db:Hid (Pz B P [.slice aa la.length ka,.slice ab lb.length kb,.slice ac lc.length kc,.slice ae le.length ke] [la,lb,lc,le] wr):=rJ.out wr (pq.kx.trans (HM.kx.up λy hy=>by unfold R5;simp only [PE];exact .inr (.inr (.inr hy))));have c0:wr.cell? ⟨P,3,none⟩=some (.slice ae le.length ke):=P0 db.blk rfl;by_cases ag:i<le.length
 ·obtain ⟨G,C,hG,pp,qr⟩:=Uv (show wr.ownsRow B 28 1 (.slice ae le.length ke) le.length le from db.own 3 (by simp) (by simp)) ag;obtain ⟨rfl,rfl⟩:ae=some ⟨G,0,none⟩/\ke=C:=by simpa using hG
  obtain ⟨ad,n,cap,hv,dg⟩:=HM.out.lis.2 i ag (by rw [HM.out.lis.1];exact ag);rw [hv] at qr;have HV:=P4 hv;have iY:=Y8 dg;have iO:n<=1000000:=fT.2.2.2 i ag ad n cap hv;have fj:=P4 (HM.at ag hv);have i1:(0:Int)<=(i:Int):=by omega
  have i2:(i:Int)<(le.length:Int):=by omega
  clear hG hv dg db
  go_upto_region 41 with fail
  go_loopw [18] (λkv w9=>kv= .int .i64 0/\w9=wr) (λ_ _=>0)
  case atStart=>exact ⟨by go_num,rfl⟩
  obtain ⟨rfl,vy⟩:=hrel;subst vy;clear c0 qr HM;by_cases gy:n=0
  ·subst gy
   go_upto_region 45 with fail
   go_loopw [17,19] (λlv kv wr=>∃(m:Nat) (ad':Option Addr) (cap':Nat),m<=5/\kv= .int .i64 m/\lv= .slice ad' (0+m) cap'/\Hid (Gw 5 30 0 le be w3 i 0 m (.slice ad' (0+m) cap') wr)) (λ_ kv _=>5-(intOf kv).toNat)
   case atStart=>exact ⟨0,ad,cap,by omega,by go_num,rfl,fj.out⟩
   obtain ⟨m,ad',cap',hm,rfl,rfl,HG⟩:=hrel;by_cases dq:m<5
   ·obtain ⟨g9,cC,W9,d8,gK⟩:=HG.put Tryz.tyE (by omega) Bd.out kK.2.2.2 ag HV.out iO dq [.int .i64 (-7),.int .i64 0,.slice none 0 0,.slice none 0 0,.slice none 0 0] rfl (by intro u hu;simp only [Qa,Sf,Si] at hu;rcases hu with rfl | rfl | rfl | rfl | rfl<;>rfl) 28;have kN:=P4 gK;have m1:(m:Int)<5:=by omega
    have m0:(0:Int)<=(m:Int):=by omega
    clear gK HG fj
    go_wp2_with (at_builtin;refine Lib.wpList_append_run _ rfl _ _ _ _ rfl _ _ rfl rfl _ _ d8 ?_)
    exact ⟨⟨m+1,some ⟨g9,0,none⟩,cC,dq,by go_num,by rw [Rp],kN.out⟩,by simp [intOf];omega⟩
   obtain rfl:m=5:=by omega
   have jq:=P4 HG.gs;clear HG fj;go_wp2;exact ⟨⟨i+1,ag,by go_num,jq.out⟩,by simp [intOf];omega⟩
  have G5:(0:Int)<(n:Int):=by omega
  go_upto_region 45 with fail
  go_loopw [17,19] (λlv kv wr=>∃(m:Nat) (ad':Option Addr) (cap':Nat),m<=5/\kv= .int .i64 m/\lv= .slice ad' (n+m) cap'/\Hid (Gw 5 30 0 le be w3 i n m (.slice ad' (n+m) cap') wr)) (λ_ kv _=>5-(intOf kv).toNat)
  case atStart=>exact ⟨0,ad,cap,by omega,by go_num,rfl,fj.out⟩
  obtain ⟨m,ad',cap',hm,rfl,rfl,HG⟩:=hrel;by_cases dq:m<5
  ·obtain ⟨g9,cC,W9,d8,gK⟩:=HG.put Tryz.tyE (by omega) Bd.out kK.2.2.2 ag HV.out iO dq [.int .i64 (-7),.int .i64 0,.slice none 0 0,.slice none 0 0,.slice none 0 0] rfl (by intro u hu;simp only [Qa,Sf,Si] at hu;rcases hu with rfl | rfl | rfl | rfl | rfl<;>rfl) 28;have kN:=P4 gK;have m1:(m:Int)<5:=by omega
   have m0:(0:Int)<=(m:Int):=by omega
   clear gK HG fj
   go_wp2_with (at_builtin;refine Lib.wpList_append_run _ rfl _ _ _ _ rfl _ _ rfl rfl _ _ d8 ?_)
   exact ⟨⟨m+1,some ⟨g9,0,none⟩,cC,dq,by go_num,rfl,kN.out⟩,by simp [intOf];omega⟩
  obtain rfl:m=5:=by omega
  have jq:=P4 HG.gs;clear HG fj;go_wp2;exact ⟨⟨i+1,ag,by go_num,jq.out⟩,by simp [intOf];omega⟩
 obtain rfl:i=le.length:=by omega
 have n7:=P4 (pq.ke (by omega) HM.kx HM.lis HM.brs);obtain ⟨w4,uu⟩:∃x,x=wr:=⟨_,rfl⟩;subst uu;clear HM db pq;go_wp2;refine Yq (v:= .tuple #[]) (by simp [results,Tryz.results35,go_sem]) rfl ?_;exact ⟨rfl,n7.out⟩
