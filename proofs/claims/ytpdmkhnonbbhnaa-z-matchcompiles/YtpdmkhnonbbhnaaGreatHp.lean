import Derived.Test.YtpdmkhnonbbhnaaGreatMax
import Derived.Test.YtpdmkhnonbbhnaaGreatProg
import Derived.Below
namespace Go.Proofs.YtpdmkhnonbbhnaaGreat
open Go.RowKit
set_option linter.defProp false
variable {S S':Nat->Prop}{w w':World}{v:Value}{k g o:Nat}{p:Pt}{ps:List Pt}{rows:List (List Pt)}{l:List Int}
def Ut:=@World.cell?_of_block
def PX:=@Below.heap_setCell
def U4:=@World.ownsRow_nil
def Qq:=@Below.heap_alloc
def RV:=@IntKind.wrap_i64
def Sb:=@World.size_alloc
def RM:=@Value.slice.inj
def MY:=@DataW.held.inj
def JE:=@DataW.trod_int
def NC:=@run_underlying
def Y6:=@run_makeSlice
def Yq:=@bodyPost_end
def Qv:=@bodyPost_ret
def OO:=@Below.mono
def Pb:=@Below.refl
def Pe:=@Calls.mono
theorem P4 {p:Prop}(h:p):Hid p:=h
theorem Qh {p0 p1:Prop}(h0:p0)(h1:p1):Hid (p0/\p1):=⟨h0,h1⟩
theorem Ro {p0 p1 p2:Prop}(h0:p0)(h1:p1)(h2:p2):Hid (p0/\p1/\p2):=⟨h0,h1,h2⟩
theorem S6 {p0 p1 p2 p3:Prop}(h0:p0)(h1:p1)(h2:p2)(h3:p3):Hid (p0/\p1/\p2/\p3):=⟨h0,h1,h2,h3⟩
theorem Ng {p0 p1 p2 p3 p4:Prop}(h0:p0)(h1:p1)(h2:p2)(h3:p3)(h4:p4):Hid (p0/\p1/\p2/\p3/\p4):=⟨h0,h1,h2,h3,h4⟩
theorem Oh {p0 p1 p2 p3 p4 p5:Prop}(h0:p0)(h1:p1)(h2:p2)(h3:p3)(h4:p4)(h5:p5):Hid (p0/\p1/\p2/\p3/\p4/\p5):=⟨h0,h1,h2,h3,h4,h5⟩
theorem Yt {p0 p1 p2 p3 p4 p5 p6:Prop}(h0:p0)(h1:p1)(h2:p2)(h3:p3)(h4:p4)(h5:p5)(h6:p6):Hid (p0/\p1/\p2/\p3/\p4/\p5/\p6):=⟨h0,h1,h2,h3,h4,h5,h6⟩
theorem hid8 {p0 p1 p2 p3 p4 p5 p6 p7:Prop}(h0:p0)(h1:p1)(h2:p2)(h3:p3)(h4:p4)(h5:p5)(h6:p6)(h7:p7):Hid (p0/\p1/\p2/\p3/\p4/\p5/\p6/\p7):=⟨h0,h1,h2,h3,h4,h5,h6,h7⟩
theorem hid9 {p0 p1 p2 p3 p4 p5 p6 p7 p8:Prop}(h0:p0)(h1:p1)(h2:p2)(h3:p3)(h4:p4)(h5:p5)(h6:p6)(h7:p7)(h8:p8):Hid (p0/\p1/\p2/\p3/\p4/\p5/\p6/\p7/\p8):=⟨h0,h1,h2,h3,h4,h5,h6,h7,h8⟩
def Pd {α:Type}(k:Nat)(Q:Nat->Nat->α->Prop)(v:Value)(ps:List α):Prop:=
 (ps=[]/\∃ad cap,v= .slice ad 0 cap)\/∃g o cap,v= .slice (some ⟨g,o,none⟩) ps.length cap/\ps≠[]/\ps.length<=cap/\∀j (h:j<ps.length),Q g (o+j*k) ps[j]
theorem Pd.mono {α:Type}{Q Q':Nat->Nat->α->Prop}{ps:List α}(hQ:∀g o,∀p∈ps,Q g o p->Q' g o p)(h:Pd k Q v ps):Pd k Q' v ps:=by
 rcases h with h | ⟨g,o,cap,h1,h2,h3,h4⟩
 ·exact .inl h
 exact .inr ⟨g,o,cap,h1,h2,h3,λj hj=>hQ _ _ _ (Px hj) (h4 j hj)⟩
theorem Pd.len {α:Type}{Q:Nat->Nat->α->Prop}{ps:List α}(h:Pd k Q v ps):∃ad cap,v= .slice ad ps.length cap:=by
 rcases h with ⟨h0,ad,cap,rfl⟩ | ⟨g,o,cap,rfl,_⟩
 ·exact ⟨ad,cap,by rw [h0];rfl⟩
 exact ⟨_,cap,rfl⟩
theorem Pd.map {α β:Type}{Q:Nat->Nat->α->Prop}{Q':Nat->Nat->β->Prop}{ps:List α}(f:α->β)(hQ:∀g o p,Q g o p->Q' g o (f p))(h:Pd k Q v ps):Pd k Q' v (ps.map f):=by
 rcases h with ⟨h0,h⟩ | ⟨g,o,cap,hv,h0,hc,h⟩
 ·exact .inl ⟨by rw [h0];rfl,h⟩
 refine .inr ⟨g,o,cap,by rw [hv,Qb],by simpa using h0,by rw [Qb];exact hc,λj hj=> ?_⟩;rw [R7];exact hQ _ _ _ (h j (by simpa using hj))
theorem Pd.open {α:Type}{Q:Nat->Nat->α->Prop}{ps:List α}(h:Pd k Q v ps):∃ad cap,v= .slice ad ps.length cap/\(ps≠[]->∃g o,ad=some ⟨g,o,none⟩/\ps.length<=cap/\∀j (h:j<ps.length),Q g (o+j*k) ps[j]):=by
 rcases h with ⟨h0,ad,cap,rfl⟩ | ⟨g,o,cap,rfl,h0,hc,h⟩
 ·exact ⟨ad,cap,by rw [h0];rfl,λh=>absurd h0 h⟩
 exact ⟨_,cap,rfl,λ_=>⟨g,o,rfl,hc,h⟩⟩
def OZ (S:Nat->Prop)(w w':World):Prop:=∀b,S b->w'.heap[b]? =w.heap[b]?
theorem OZ.refl (S:Nat->Prop)(w:World):OZ S w w:=λ_ _=>rfl
theorem OZ.trans {a b c:World}(h:OZ S a b)(k:OZ S b c):OZ S a c:=λi hi=>(k i hi).trans (h i hi)
theorem OZ.cell (h:OZ S w w'){p:Addr}(hp:S p.block):w'.cell? p=w.cell? p:=by
 unfold World.cell?;rw [h _ hp]
theorem OZ.of {B:Nat}(h:Below B w w')(hS:∀b,S b->b<B):OZ S w w':=λb hb=>h.block b (hS b hb)
def Td (w:World)(S:Nat->Prop):(d:Nat)->Nat->Nat->Pn d->Prop
 | 0,_,_,_=>False
 | d+1,g,o,t=>S g/\w.cell? ⟨g,o,none⟩=some (.int .i64 t.1.1)/\w.cell? ⟨g,o+1,none⟩=some (.string ⟨t.1.2.1.toArray⟩)/\w.cell? ⟨g,o+2,none⟩=some (.int .i64 t.1.2.2)/\
  t.1.2.1.length<140737488355328/\t.2.length<140737488355328/\∃v,w.cell? ⟨g,o+3,none⟩=some v/\Pd 4 (Td w S d) v t.2
theorem Td.below {w w':World}{S S':Nat->Prop}(hb:OZ S w w')(hB:∀b,S b->S' b):∀(d g o:Nat) (t:Pn d),Td w S d g o t->Td w' S' d g o t
 | 0,_,_,_,h=>h
 | d+1,g,o,_,⟨h0,h1,h2,h3,h4,h5,v,h6,h7⟩=>⟨hB _ h0,(hb.cell (p:=⟨g,o,none⟩) h0).trans h1,(hb.cell (p:=⟨g,o+1,none⟩) h0).trans h2,(hb.cell (p:=⟨g,o+2,none⟩) h0).trans h3,h4,h5,v,(hb.cell (p:=⟨g,o+3,none⟩) h0).trans h6,h7.mono λg o p _=>Td.below hb hB d g o p⟩
def RN (w:World)(S:Nat->Prop)(g o:Nat)(p:Pt):Prop:=Td w S p.1 g o p.2
theorem RN.on (h:RN w S g o p)(hb:OZ S w w'):RN w' S g o p:=Td.below hb (λ_ h=>h) _ _ _ _ h
theorem RN.up (h:RN w S g o p)(hB:∀b,S b->S' b):RN w S' g o p:=Td.below (OZ.refl _ _) hB _ _ _ _ h
def Pl (w:World)(S:Nat->Prop)(v:Value)(ps:List Pt):Prop:=Pd 4 (RN w S) v ps
theorem Pl.on (h:Pl w S v ps)(hb:OZ S w w'):Pl w' S v ps:=h.mono λ_ _ _ _ h=>h.on hb
theorem Pl.up (h:Pl w S v ps)(hB:∀b,S b->S' b):Pl w S' v ps:=h.mono λ_ _ _ _ h=>h.up hB
theorem RN.open:∀{p:Pt},RN w S g o p->S g/\w.cell? ⟨g,o,none⟩=some (.int .i64 p.kind)/\w.cell? ⟨g,o+1,none⟩=some (.string ⟨p.name.toArray⟩)/\w.cell? ⟨g,o+2,none⟩=some (.int .i64 p.num)/\
  p.name.length<140737488355328/\p.kids.length<140737488355328/\∃ad cap,w.cell? ⟨g,o+3,none⟩=some (.slice ad p.kids.length cap)/\Pl w S (.slice ad p.kids.length cap) p.kids
 | ⟨0,_⟩,h=>h.elim
 | ⟨d+1,t⟩,⟨h0,h1,h2,h3,h4,h5,v,h6,h7⟩=>by
  have h8:Pl w S v (Pt.kids ⟨d+1,t⟩):=Pd.map (λu=>(⟨d,u⟩:Pt)) (λ_ _ _ h=>h) h7;obtain ⟨ad,cap,rfl⟩:=h8.len;exact ⟨h0,h1,h2,h3,h4,by show (List.map _ _).length<_;rw [Qb];exact h5,ad,cap,h6,h8⟩
def TP (w:World)(S:Nat->Prop)(x:Value)(p:Pt):Prop:=∃ad cap,x= .agg #[.int .i64 p.kind,.string ⟨p.name.toArray⟩,.int .i64 p.num,.slice ad p.kids.length cap]/\p.name.length<140737488355328/\p.kids.length<140737488355328/\Pl w S (.slice ad p.kids.length cap) p.kids
theorem TP.on {x:Value}(h:TP w S x p)(hb:OZ S w w'):TP w' S x p:=by
 obtain ⟨ad,cap,h1,h2,h3,h4⟩:=h;exact ⟨ad,cap,h1,h2,h3,h4.on hb⟩
def RH (w:World)(S:Nat->Prop)(v:Value)(rows:List (List Pt)):Prop:=Pd 1 (λg o r=>S g/\∃ad cap,w.cell? ⟨g,o,none⟩=some (.slice ad r.length cap)/\Pl w S (.slice ad r.length cap) r) v rows
theorem RH.on (h:RH w S v rows)(hb:OZ S w w'):RH w' S v rows:=h.mono λg o _ _ ⟨h0,ad,cap,h1,h2⟩=>⟨h0,ad,cap,(hb.cell (p:=⟨g,o,none⟩) h0).trans h1,h2.on hb⟩
theorem RH.up (h:RH w S v rows)(hB:∀b,S b->S' b):RH w S' v rows:=h.mono λ_ _ _ _ ⟨h0,ad,cap,h1,h2⟩=>⟨hB _ h0,ad,cap,h1,h2.up hB⟩
def Rl (w:World)(S:Nat->Prop)(v:Value)(l:List Int):Prop:=Pd 1 (λg o x=>S g/\w.cell? ⟨g,o,none⟩=some (.int .i64 x)) v l
theorem Rl.on (h:Rl w S v l)(hb:OZ S w w'):Rl w' S v l:=h.mono λg o _ _ ⟨h0,h1⟩=>⟨h0,(hb.cell (p:=⟨g,o,none⟩) h0).trans h1⟩
theorem Rl.up (h:Rl w S v l)(hB:∀b,S b->S' b):Rl w S' v l:=h.mono λ_ _ _ _ ⟨h0,h1⟩=>⟨hB _ h0,h1⟩
def RE (w:World)(S:Nat->Prop)(v:Value)(l:List Qg):Prop:=Pd 1 (λg o x=>S g/\w.cell? ⟨g,o,none⟩=some (.string ⟨x.toArray⟩)/\x.length<140737488355328) v l
theorem RE.on {l:List Qg}(h:RE w S v l)(hb:OZ S w w'):RE w' S v l:=h.mono λg o _ _ ⟨h0,h1,h2⟩=>⟨h0,(hb.cell (p:=⟨g,o,none⟩) h0).trans h1,h2⟩
theorem RE.up {l:List Qg}(h:RE w S v l)(hB:∀b,S b->S' b):RE w S' v l:=h.mono λ_ _ _ _ ⟨h0,h1,h2⟩=>⟨hB _ h0,h1,h2⟩
def PH (w:World)(S:Nat->Prop)(v:Value)(l:List Pu):Prop:=Pd 2 (λg o f=>S g/\(∃ad cap,w.cell? ⟨g,o,none⟩=some (.slice ad f.1.length cap)/\RE w S (.slice ad f.1.length cap) f.1)/\∃ad cap,w.cell? ⟨g,o+1,none⟩=some (.slice ad f.2.length cap)/\Rl w S (.slice ad f.2.length cap) f.2) v l
theorem PH.on {l:List Pu}(h:PH w S v l)(hb:OZ S w w'):PH w' S v l:=h.mono λg o _ _ ⟨h0,⟨ad,cap,h1,h2⟩,ad',cap',h3,h4⟩=>⟨h0,⟨ad,cap,(hb.cell (p:=⟨g,o,none⟩) h0).trans h1,h2.on hb⟩,ad',cap',(hb.cell (p:=⟨g,o+1,none⟩) h0).trans h3,h4.on hb⟩
theorem PH.up {l:List Pu}(h:PH w S v l)(hB:∀b,S b->S' b):PH w S' v l:=h.mono λ_ _ _ _ ⟨h0,⟨ad,cap,h1,h2⟩,ad',cap',h3,h4⟩=>⟨hB _ h0,⟨ad,cap,h1,h2.up hB⟩,ad',cap',h3,h4.up hB⟩
