import Derived.Test.YtpdmkhnonbbhnaaGreatRa
import Derived.Test.YtpdmkhnonbbhnaaGreatMax
import Derived.WalkSpells
import Derived.WalkLawsBesides
import Derived.Deep.Cut
import Derived.BigQuiet
namespace Go.Proofs.YtpdmkhnonbbhnaaGreat
open Go.RowKit
set_option maxHeartbeats 8000000
set_option maxRecDepth 10000
variable {w:World}{S Z:Nat->Prop}{v:Value}{ps:List Pt}{ad:Option Addr}{n cap:Nat}
theorem Pd.unmap {α β:Type}{k:Nat}{Q:Nat->Nat->α->Prop}{Q':Nat->Nat->β->Prop}{ps:List α}(f:α->β)(hQ:∀g o p,Q' g o (f p)->Q g o p)(h:Pd k Q' v (ps.map f)):Pd k Q v ps:=by
 rcases h with ⟨h,h'⟩ | ⟨g,o,cap,h1,h2,h3,h4⟩
 ·exact .inl ⟨List.map_eq_nil_iff.1 h,h'⟩
 refine .inr ⟨g,o,cap,by rw [h1,Qb],λe=>h2 (by rw [e];rfl),by rwa [Qb] at h3,λj hj=>hQ _ _ _ ?_⟩;have:=h4 j (by rwa [Qb])
 rwa [R7] at this
theorem RN.mk {w:World}{S:Nat->Prop}{g o:Nat}:∀{p:Pt}{ad:Option Addr}{cap:Nat},S g->w.cell? ⟨g,o,none⟩=some (.int .i64 p.kind)->w.cell? ⟨g,o+1,none⟩=some (.string ⟨p.name.toArray⟩)->w.cell? ⟨g,o+2,none⟩=some (.int .i64 p.num)->p.name.length<140737488355328->p.kids.length<140737488355328->w.cell? ⟨g,o+3,none⟩=some (.slice ad p.kids.length cap)->Pl w S (.slice ad p.kids.length cap) p.kids->RN w S g o p
 | ⟨0,t⟩,_,_,_,_,_,_,_,_,_,_=>t.elim
 | ⟨d+1,t⟩,_,_,h0,h1,h2,h3,h4,h5,h6,h7=>⟨h0,h1,h2,h3,h4,by
   have e:(Pt.kids ⟨d+1,t⟩).length=t.2.length:=Qb _;rw [e] at h5;exact h5,_,h6,Pd.unmap (λu=>(⟨d,u⟩:Pt)) (λ_ _ _ h=>h) h7⟩
def Ru (p:Pt)(ad:Option Addr)(cap:Nat):List Value:=[.int .i64 p.kind,.string ⟨p.name.toArray⟩,.int .i64 p.num,.slice ad p.kids.length cap]
def R9:Elt Pt where
 k:=4
 C w S cs p:=∃ad cap,cs=Ru p ad cap/\p.name.length<140737488355328/\p.kids.length<140737488355328/\Pl w S (.slice ad p.kids.length cap) p.kids
 len:=by rintro _ _ _ _ ⟨_,_,rfl,_⟩;rfl
 one:=by
  rintro _ _ _ _ ⟨_,_,rfl,_⟩ u hu;simp only [Ru,Qa,Sf,Si] at hu;rcases hu with rfl | rfl | rfl | rfl<;>rfl
 on:=by
  rintro _ _ _ _ _ _ hk hS ⟨ad,cap,h1,h2,h3,h4⟩;exact ⟨ad,cap,h1,h2,h3,(h4.on hk).up hS⟩
theorem Tryz.ty31:Ty 31 50 R9.k 56:=by
 obtain ⟨i,hi,h0,h1,h2⟩:=info_parts (show (Tryz.prog.info? 50).map (λi=>(i.zero,i.size,i.bytes))=some (some (.agg #[.int .i64 0,.string ⟨#[]⟩,.int .i64 0,.slice none 0 0]),4,56) by kernel_rfl);exact ⟨Tryz.underlying31,⟨i,_,hi,h0,h1,h2,rfl⟩,by decide,by decide⟩
theorem Pl.toE (h:Pl w S v ps):PC R9 w S S v ps:=Pd.mono (λg o p _ hp=>by
 obtain ⟨h0,h1,h2,h3,h4,h5,ad,cap,h6,h7⟩:=hp.open;refine ⟨h0,Ru p ad cap,⟨ad,cap,rfl,h4,h5,h7⟩,λj hj=> ?_⟩;have hj:j<4:=hj
 match j with
 | 0=>exact h1
 | 1=>exact h2
 | 2=>exact h3
 | 3=>exact h6) h
theorem PC.toPats (h:PC R9 w Z S v ps):Pl w (λy=>Z y\/S y) v ps:=Pd.mono (λg o p _ hp=>by
 obtain ⟨h0,cs,⟨ad,cap,rfl,h4,h5,h7⟩,h⟩:=hp;exact RN.mk (.inl h0) (h 0 (by decide)) (h 1 (by decide)) (h 2 (by decide)) h4 h5 (h 3 (by decide)) (h7.up λ_ h=> .inr h)) h
theorem PC.take {α:Type}{E:Elt α}{l:List α}(h:PC E w Z S (.slice ad n cap) l)(c:Nat)(hc:c<=l.length):PC E w Z S (.slice ad c cap) (l.take c):=by
 rcases h with ⟨rfl,ad',cap',e⟩ | ⟨g,o,cap',e,h0,h1,h2⟩
 ·obtain rfl:c=0:=by simpa using hc
  exact .inl ⟨rfl,ad,cap,rfl⟩
 injection e with e1 e2 e3;subst e1 e3;by_cases h:c=0
 ·subst h;exact .inl ⟨rfl,_,_,rfl⟩
 refine .inr ⟨g,o,cap,by rw [RW,Zr hc],λe=> ?_,by rw [RW];omega,λj hj=> ?_⟩
 ·have:=congrArg List.length e;rw [RW,Zr hc] at this;exact h this
 rw [Gp];exact h2 j (by rw [RW] at hj;omega)
theorem PC.drop {α:Type}{E:Elt α}{ad':Option Addr}{cap':Nat}{l:List α}(h:PC E w Z S (.slice ad n cap) l)(c:Nat)(ha:∀g o,c<l.length->ad=some ⟨g,o,none⟩->ad'=some ⟨g,o+c*E.k,none⟩/\cap'=cap-c):PC E w Z S (.slice ad' (l.length-c) cap') (l.drop c):=by
 by_cases hc:c<l.length
 ·rcases h with ⟨rfl,_⟩ | ⟨g,o,cap2,e,h0,h1,h2⟩
  ·simp at hc
  injection e with e1 e2 e3;subst e1 e3;obtain ⟨rfl,rfl⟩:=ha g o hc rfl;refine .inr ⟨g,o+c*E.k,cap-c,by rw [Um],λe=> ?_,by rw [Um];omega,λj hj=> ?_⟩
  ·have:=congrArg List.length e;rw [Um] at this;simp at this;omega
  rw [List.getElem_drop];have:=h2 (c+j) (by rw [Um] at hj;omega);rw [TM,<-YQ] at this;exact this
 have e:l.drop c=[]:=Yb (by omega);have e2:l.length-c=0:=by omega
 rw [e,e2];exact .inl ⟨rfl,ad',cap',rfl⟩
theorem XU (lv iv:Value)(ps is:List Pt)(c:Nat)(hS:∀y,S y->y<w.heap.size)(hp:Pl w S lv ps)(hi:Pl w S iv is)(hc:c<ps.length)(hl:ps.length+is.length<=1000000):
  Calls Tryz.prog 64 #[lv,.int .i64 c,iv] w λr w'=>∃v,r= .returned v/\Below w.heap.size w w'/\Own R9 50 w.heap.size w' S v (Qd ps c is):=by
 obtain ⟨ad,cap,rfl,au⟩:=Pd.open hp;obtain ⟨dx,b9,rfl⟩:=Pd.len hi;have HS:=P4 hS;have HP:=P4 hp.toE;have HI:=P4 hi.toE;obtain ⟨g,o,rfl,aM,_⟩:=au (λe=>by rw [e] at hc;simp at hc);have c1:(0:Int)<=(c:Int):=by omega
 have c2:(c:Int)<(ps.length:Int):=by omega
 clear hS hp hi au;have hcc:(ps.length:Int)<=(cap:Int):=by omega
 go_enter Tryz.func64,Tryz.ntmps64
 go_wp2_with (at_builtin;first
  | (refine NT (E:=R9) Tryz.ty31 rfl _ _ rfl (l:=[]) rfl (Own.nil _ _ w.heap.size w S) rfl (m:=ps.take c) (HP.take c (by omega)) (by simp;omega) (P6 _) HS.out ?_;intro v1 w1 O1 B1 _ _)
  | (refine NT (E:=R9) (Z:=S) Tryz.ty31 rfl _ _ rfl rfl O1 rfl (m:=is) (HI.on (OZ.of B1 HS.out) (OZ.of B1 HS.out) (λ_ h=>h) λ_ h=>h) (by simp;omega) B1.size (λy hy=>PQ (HS.out y hy) B1.size) ?_;intro v2 w2 O2 B2 _ _)
  | (refine NT (E:=R9) (Z:=S) Tryz.ty31 rfl _ _ rfl rfl O2 rfl (m:=ps.drop (c+1)) (PC.drop (HP.on (OZ.of (B1.trans B2) HS.out) (OZ.of (B1.trans B2) HS.out) (λ_ h=>h) λ_ h=>h) (c+1) ?_) (by simp;omega) (PZ B1.size B2.size) (λy hy=>PQ (HS.out y hy) (PZ B1.size B2.size)) ?_;rotate_left;intro v3 w3 O3 B3 _ _;rotate_left))
 ·intro h;omega
 ·intro _
  rfl
 all_goals
  go_ret;exact ⟨v3,rfl,(B1.trans B2).trans B3,O3⟩
