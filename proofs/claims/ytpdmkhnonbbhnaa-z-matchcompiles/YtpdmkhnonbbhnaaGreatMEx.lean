import Derived.Test.YtpdmkhnonbbhnaaGreatMxx
import Derived.Test.YtpdmkhnonbbhnaaGreatWn
namespace Go.Proofs.YtpdmkhnonbbhnaaGreat
open Go.RowKit Go.Maps
set_option maxHeartbeats 4000000
set_option maxRecDepth 10000
section
def Tc (B:Nat):Array Value:= #[.int .i64 4,.string ⟨#[67,111,110,115]⟩,.int .i64 0,.slice (some ⟨B+1,0,none⟩) 2 2]
theorem Ye.on {w w':World}{Z:Nat->Prop}{r:Value}(h:Ye w Z r)(hk:OZ Z w w'):Ye w' Z r:=by
 obtain ⟨pa,pc,gc,oc,cc,ge,oe,ec,ad1,c1,gm,om,cm,h1,⟨z1,z2,z3⟩,h2,h3,h4,dH,dI,fG,jD,fq,fH,jE,eB,⟨h5,h6,h7,h8,h9⟩,lr⟩:=h;have kc:∀o,w'.cell? ⟨gc,o,none⟩=w.cell? ⟨gc,o,none⟩:=λo=>hk.cell (p:=⟨gc,o,none⟩) z1;have ke:∀o,w'.cell? ⟨ge,o,none⟩=w.cell? ⟨ge,o,none⟩:=λo=>hk.cell (p:=⟨ge,o,none⟩) z2;have km:∀o,w'.cell? ⟨gm,o,none⟩=w.cell? ⟨gm,o,none⟩:=λo=>hk.cell (p:=⟨gm,o,none⟩) z3;exact ⟨pa,pc,gc,oc,cc,ge,oe,ec,ad1,c1,gm,om,cm,h1,⟨z1,z2,z3⟩,(ke _).trans h2,(km _).trans h3,(kc _).trans h4,dH,dI,fG,jD,fq,fH,jE,eB,⟨(kc _).trans h5,(kc _).trans h6,(kc _).trans h7,(kc _).trans h8,(kc _).trans h9⟩,lr.on hk⟩
structure AwS (W:World)(B:Nat)(l:Nat->Bool)(v:Nat->Value)(Z:Nat->Prop)(w:World):Prop where
 below:Below W.heap.size W w
 zlt:∀y,Z y->y<w.heap.size
 f0:l 0=true->l 4=false->∃g,v 14= .slice (some ⟨g,0,none⟩) 1 1/\PH w (λy=>y<w.heap.size) (v 14) [RG]
 f1:l 1=true->v 15= .agg (Tc B)
 f2:l 2=true->l 4=false->∃g,g<w.heap.size/\v 16= .slice (some ⟨g,0,none⟩) 1 1/\w.heap[g]? =some (.cells (Tc B) 50 (0,0))
 f3:l 3=true->l 4=false->RH w (λy=>y<w.heap.size) (v 17) [[TB]]
 f4:l 4=true->Ye w Z (v 18)
 g4:l 4=true->l 3=true
 f5:l 5=true->l 4=true/\v 13=v 18
 f6:l 6=true->l 4=true/\∃y z,v 18= .tuple #[v 19,y,z]
 f7:l 7=true->l 4=true/\∃x z,v 18= .tuple #[x,v 20,z]
 f8:l 8=true->l 4=true/\∃x y,v 18= .tuple #[x,y,v 21]
 f9:l 9=true->∃b c0 c1 c2 c3 c4,v 3= .pointer (some ⟨b,0,none⟩)/\W.heap.size<=b/\b<w.heap.size/\¬Z b/\w.heap[b]? =some (.cells #[c0,c1,c2,c3,c4] 30 (0,0))/\(l 11=true->v 19= .agg #[c0,c1,c2,c3,c4])
 f10:l 10=true->∃b c0 c1 c2,v 4= .pointer (some ⟨b,0,none⟩)/\W.heap.size<=b/\b<w.heap.size/\¬Z b/\w.heap[b]? =some (.cells #[c0,c1,c2] 33 (0,0))/\(l 12=true->v 20= .agg #[c0,c1,c2])
 far:∀b b',l 9=true->l 10=true->v 3= .pointer (some ⟨b,0,none⟩)->v 4= .pointer (some ⟨b',0,none⟩)->b≠b'
 f11:l 11=true->l 6=true/\l 9=true
 f12:l 12=true->l 7=true/\l 10=true
 f13:l 13=true->l 8=true/\v 5=v 21
theorem XV {w:World}{R:Nat}{c0 c1 c2:Value}{t:TypeId}(h:w.heap[R]? =some (.cells #[c0,c1,c2] t (0,0)))(v0 v1 v2:Value):
  ∃U,U=((w.setCell ⟨R,0,none⟩ v0).setCell ⟨R,1,none⟩ v1).setCell ⟨R,2,none⟩ v2/\U.heap[R]? =some (.cells #[v0,v1,v2] t (0,0))/\U.heap.size=w.heap.size/\(∀x,x≠R->U.heap[x]? =w.heap[x]?)/\U.os=w.os/\U.tape=w.tape/\U.output=w.output:=by
 have a0:=Q5 (i:=0) (v:=v0) h;have a1:=Q5 (i:=1) (v:=v1) a0;have a2:=Q5 (i:=2) (v:=v2) a1;have hk:=(((Kx.refl R w).setCell 0 v0).setCell 1 v1).setCell 2 v2;have e:((#[c0,c1,c2].setIfInBounds 0 v0).setIfInBounds 1 v1).setIfInBounds 2 v2= #[v0,v1,v2]:=rfl;rw [e] at a2;refine ⟨_,rfl,a2,by simp [World.setCell],λx hx=> ?_,hk.os,hk.tape,hk.output⟩;rw [PX _ _ _ _ hx,PX _ _ _ _ hx,PX _ _ _ _ hx]
theorem Ye.tup {w:World}{Z:Nat->Prop}{r:Value}(h:Ye w Z r):∃p0 p1 p2 q0 q1 q2 r0 r1 r2 x0 x1 x2 y0 y1 y2,r= .tuple #[.agg #[.int .i64 3,.int .i64 0,.slice p0 p1 p2,.slice q0 q1 q2,.slice r0 r1 r2],.agg #[.bool false,.slice x0 x1 x2,.slice y0 y1 y2],.int .i64 0]:=by
 obtain ⟨pa,pc,gc,oc,cc,ge,oe,ec,ad1,c1,gm,om,cm,rfl,_⟩:=h;exact ⟨_,_,_,_,_,_,_,_,_,_,_,_,_,_,_,rfl⟩
variable {W:World}{B:Nat}{l:Nat->Bool}{v:Nat->Value}{Z:Nat->Prop}{w w':World}
theorem AwS.start (W:World)(B:Nat)(v:Nat->Value):AwS W B (λ_=>false) v (λ_=>False) W:=
 ⟨Pb _ _,λ_ h=>h.elim,nofun,nofun,nofun,nofun,nofun,nofun,nofun,nofun,nofun,nofun,nofun,nofun,nofun,nofun,nofun,nofun⟩
theorem AwS.start' (W:World)(B:Nat)(v:Nat->Value):AwS W B (λ_=>false) v (λ_=>False) W.drew:=
 ⟨(Pb _ _).drew,λ_ h=>h.elim,nofun,nofun,nofun,nofun,nofun,nofun,nofun,nofun,nofun,nofun,nofun,nofun,nofun,nofun,nofun,nofun⟩
theorem AwS.on (h:AwS W B l v Z w)(hb:Below w.heap.size w w'):AwS W B l v Z w' where
 below:=h.below.trans (hb.mono h.below.size)
 zlt:=λy hy=>PQ (h.zlt y hy) hb.size
 f0:=λa b=>by
  obtain ⟨g,h1,h2⟩:=h.f0 a b;exact ⟨g,h1,(h2.on (OZ.of hb λ_ h=>h)).up λy hy=>PQ hy hb.size⟩
 f1:=h.f1
 f2:=λa b=>by
  obtain ⟨g,h1,h2,h3⟩:=h.f2 a b;exact ⟨g,PQ h1 hb.size,h2,(hb.block g h1).trans h3⟩
 f3:=λa b=>((h.f3 a b).on (OZ.of hb λ_ h=>h)).up λy hy=>PQ hy hb.size
 f4:=λa=>(h.f4 a).on (OZ.of hb h.zlt)
 g4:=h.g4
 f5:=h.f5
 f6:=h.f6
 f7:=h.f7
 f8:=h.f8
 f9:=λa=>by
  obtain ⟨b,c0,c1,c2,c3,c4,h1,h2,h3,h4,h5,h6⟩:=h.f9 a;exact ⟨b,c0,c1,c2,c3,c4,h1,h2,PQ h3 hb.size,h4,(hb.block b h3).trans h5,h6⟩
 f10:=λa=>by
  obtain ⟨b,c0,c1,c2,h1,h2,h3,h4,h5,h6⟩:=h.f10 a;exact ⟨b,c0,c1,c2,h1,h2,PQ h3 hb.size,h4,(hb.block b h3).trans h5,h6⟩
 far:=h.far
 f11:=h.f11
 f12:=h.f12
 f13:=h.f13
theorem AwS.s0 (h:AwS W B l v Z w){g:Nat}(hf:PH w (λy=>y<w.heap.size) (.slice (some ⟨g,0,none⟩) 1 1) [RG]):AwS W B (QN l 0 true) (QN v 14 (.slice (some ⟨g,0,none⟩) 1 1)) Z w:=
 ⟨h.below,h.zlt,λ_ _=>⟨g,rfl,hf⟩,h.f1,h.f2,h.f3,h.f4,h.g4,h.f5,h.f6,h.f7,h.f8,h.f9,h.f10,h.far,h.f11,h.f12,h.f13⟩
theorem AwS.s1 (h:AwS W B l v Z w):AwS W B (QN l 1 true) (QN v 15 (.agg (Tc B))) Z w:=
 ⟨h.below,h.zlt,h.f0,λ_=>rfl,h.f2,h.f3,h.f4,h.g4,h.f5,h.f6,h.f7,h.f8,h.f9,h.f10,h.far,h.f11,h.f12,h.f13⟩
theorem AwS.s2 (h:AwS W B l v Z w){g:Nat}(hg:g<w.heap.size)(hc:w.heap[g]? =some (.cells (Tc B) 50 (0,0))):AwS W B (QN l 2 true) (QN v 16 (.slice (some ⟨g,0,none⟩) 1 1)) Z w:=
 ⟨h.below,h.zlt,h.f0,h.f1,λ_ _=>⟨g,hg,rfl,hc⟩,h.f3,h.f4,h.g4,h.f5,h.f6,h.f7,h.f8,h.f9,h.f10,h.far,h.f11,h.f12,h.f13⟩
theorem AwS.s3 (h:AwS W B l v Z w){x:Value}(hr:RH w (λy=>y<w.heap.size) x [[TB]]):AwS W B (QN l 3 true) (QN v 17 x) Z w:=
 ⟨h.below,h.zlt,h.f0,h.f1,h.f2,λ_ _=>hr,h.f4,λ_=>rfl,h.f5,h.f6,h.f7,h.f8,h.f9,h.f10,h.far,h.f11,h.f12,h.f13⟩
theorem AwS.s4 (h:AwS W B l v Z w)(h4:l 4=false)(h3:l 3=true)(hb:Below w.heap.size w w'){x:Value}(ha:Ye w' (λy=>w.heap.size<=y/\y<w'.heap.size) x):AwS W B (QN l 4 true) (QN v 18 x) (λy=>w.heap.size<=y/\y<w'.heap.size) w':=by
 have n:∀{p:Prop},l 4=true->p:=λe=>by rw [h4] at e;cases e
 refine ⟨h.below.trans (hb.mono h.below.size),λ_ h=>h.2,nofun,h.f1,nofun,nofun,λ_=>ha,λ_=>h3,λe=>n (h.f5 e).1,λe=>n (h.f6 e).1,λe=>n (h.f7 e).1,λe=>n (h.f8 e).1,λa=> ?_,λa=> ?_,h.far,h.f11,h.f12,h.f13⟩
 ·obtain ⟨b,c0,c1,c2,c3,c4,h1,h2,h3,_,h5,h6⟩:=h.f9 a;exact ⟨b,c0,c1,c2,c3,c4,h1,h2,PQ h3 hb.size,λe=>by omega,(hb.block b h3).trans h5,h6⟩
 obtain ⟨b,c0,c1,c2,h1,h2,h3,_,h5,h6⟩:=h.f10 a;exact ⟨b,c0,c1,c2,h1,h2,PQ h3 hb.size,λe=>by omega,(hb.block b h3).trans h5,h6⟩
theorem AwS.s5 (h:AwS W B l v Z w)(h4:l 4=true):AwS W B (QN l 5 true) (QN v 13 (v 18)) Z w:=
 ⟨h.below,h.zlt,h.f0,h.f1,h.f2,h.f3,h.f4,h.g4,λ_=>⟨h4,rfl⟩,h.f6,h.f7,h.f8,h.f9,h.f10,h.far,h.f11,h.f12,h.f13⟩
theorem AwS.s6 (h:AwS W B l v Z w)(h4:l 4=true)(h6:l 6=false){x y z:Value}(e:v 18= .tuple #[x,y,z]):AwS W B (QN l 6 true) (QN v 19 x) Z w:=by
 have n:∀{p:Prop},l 11=true->p:=λe=>by have:=(h.f11 e).1;rw [h6] at this;cases this
 refine ⟨h.below,h.zlt,h.f0,h.f1,h.f2,h.f3,h.f4,h.g4,h.f5,λ_=>⟨h4,y,z,e⟩,h.f7,h.f8,λa=> ?_,h.f10,h.far,λe=>n e,h.f12,h.f13⟩;obtain ⟨b,c0,c1,c2,c3,c4,h1,h2,h3,h4,h5,_⟩:=h.f9 a;exact ⟨b,c0,c1,c2,c3,c4,h1,h2,h3,h4,h5,λe=>n e⟩
theorem AwS.s7 (h:AwS W B l v Z w)(h4:l 4=true)(h7:l 7=false){x y z:Value}(e:v 18= .tuple #[x,y,z]):AwS W B (QN l 7 true) (QN v 20 y) Z w:=by
 have n:∀{p:Prop},l 12=true->p:=λe=>by have:=(h.f12 e).1;rw [h7] at this;cases this
 refine ⟨h.below,h.zlt,h.f0,h.f1,h.f2,h.f3,h.f4,h.g4,h.f5,h.f6,λ_=>⟨h4,x,z,e⟩,h.f8,h.f9,λa=> ?_,h.far,h.f11,λe=>n e,h.f13⟩;obtain ⟨b,c0,c1,c2,h1,h2,h3,h4,h5,_⟩:=h.f10 a;exact ⟨b,c0,c1,c2,h1,h2,h3,h4,h5,λe=>n e⟩
theorem AwS.s8 (h:AwS W B l v Z w)(h4:l 4=true)(h8:l 8=false){x y z:Value}(e:v 18= .tuple #[x,y,z]):AwS W B (QN l 8 true) (QN v 21 z) Z w:=by
 have n:∀{p:Prop},l 13=true->p:=λe=>by have:=(h.f13 e).1;rw [h8] at this;cases this
 exact ⟨h.below,h.zlt,h.f0,h.f1,h.f2,h.f3,h.f4,h.g4,h.f5,h.f6,h.f7,λ_=>⟨h4,x,y,e⟩,h.f9,h.f10,h.far,h.f11,h.f12,λe=>n e⟩
theorem AwS.s9 (h:AwS W B l v Z w)(h9:l 9=false)(c0 c1 c2 c3 c4:Value):AwS W B (QN l 9 true) (QN v 3 (.pointer (some ⟨w.heap.size,0,none⟩))) Z (w.alloc (.cells #[c0,c1,c2,c3,c4] 30 (0,0))):=by
 have n:∀{p:Prop},l 11=true->p:=λe=>by have:=(h.f11 e).2;rw [h9] at this;cases this
 have hb:Below w.heap.size w (w.alloc (.cells #[c0,c1,c2,c3,c4] 30 (0,0))):=(Pb _ _).alloc (P6 _) _;have k:=h.on hb;refine ⟨k.below,k.zlt,k.f0,k.f1,k.f2,k.f3,k.f4,k.g4,k.f5,k.f6,k.f7,k.f8,λ_=>⟨w.heap.size,c0,c1,c2,c3,c4,rfl,h.below.size,by simp,λe=>Nat.lt_irrefl _ (h.zlt _ e),PF _ _,λe=>n e⟩,k.f10,λb b' _ a e1 e2=> ?_,λe=>n e,k.f12,k.f13⟩;obtain ⟨b2,d0,d1,d2,h1,h2,h3,_⟩:=h.f10 a;have e3:(Value.pointer (some ⟨b2,0,none⟩))= .pointer (some ⟨b',0,none⟩):=h1.symm.trans e2;have e4:(Value.pointer (some ⟨w.heap.size,0,none⟩))= .pointer (some ⟨b,0,none⟩):=e1;injection e3 with e3;injection e3 with e3;injection e3 with e3;injection e4 with e4;injection e4 with e4;injection e4 with e4;omega
theorem AwS.s10 (h:AwS W B l v Z w)(lr:l 10=false)(c0 c1 c2:Value):AwS W B (QN l 10 true) (QN v 4 (.pointer (some ⟨w.heap.size,0,none⟩))) Z (w.alloc (.cells #[c0,c1,c2] 33 (0,0))):=by
 have n:∀{p:Prop},l 12=true->p:=λe=>by have:=(h.f12 e).2;rw [lr] at this;cases this
 have hb:Below w.heap.size w (w.alloc (.cells #[c0,c1,c2] 33 (0,0))):=(Pb _ _).alloc (P6 _) _;have k:=h.on hb;refine ⟨k.below,k.zlt,k.f0,k.f1,k.f2,k.f3,k.f4,k.g4,k.f5,k.f6,k.f7,k.f8,k.f9,λ_=>⟨w.heap.size,c0,c1,c2,rfl,h.below.size,by simp,λe=>Nat.lt_irrefl _ (h.zlt _ e),PF _ _,λe=>n e⟩,λb b' a _ e1 e2=> ?_,k.f11,λe=>n e,k.f13⟩;obtain ⟨b2,d0,d1,d2,d3,d4,h1,h2,h3,_⟩:=h.f9 a;have e3:(Value.pointer (some ⟨b2,0,none⟩))= .pointer (some ⟨b,0,none⟩):=h1.symm.trans e1;have e4:(Value.pointer (some ⟨w.heap.size,0,none⟩))= .pointer (some ⟨b',0,none⟩):=e2;injection e3 with e3;injection e3 with e3;injection e3 with e3;injection e4 with e4;injection e4 with e4;injection e4 with e4;omega
theorem AwS.s11 (h:AwS W B l v Z w)(h4:l 4=true)(h6:l 6=true)(h9:l 9=true){b:Nat}(eb:v 3= .pointer (some ⟨b,0,none⟩))(cu:W.heap.size<=b)(hz:¬Z b){c0 c1 c2 c3 c4:Value}(hs:w'.heap.size=w.heap.size)(ho:w'.os=w.os/\w'.tape=w.tape/\w'.output=w.output)(hk:∀x,x≠b->w'.heap[x]? =w.heap[x]?)(hc:w'.heap[b]? =some (.cells #[c0,c1,c2,c3,c4] 30 (0,0)))(hv:v 19= .agg #[c0,c1,c2,c3,c4])(hlt:b<w.heap.size):AwS W B (QN l 11 true) v Z w':=by
 have n:∀{p:Prop},l 4=false->p:=λe=>by rw [h4] at e;cases e
 refine ⟨⟨ho.1.trans h.below.os,ho.2.1.trans h.below.tape,ho.2.2.trans h.below.output,by rw [hs];exact h.below.size,λk bU=>(hk k (by omega)).trans (h.below.block k bU)⟩,λy hy=>by rw [hs];exact h.zlt y hy,λ_ e=>n e,h.f1,λ_ e=>n e,λ_ e=>n e,λe=>(h.f4 e).on λy hy=>hk y λe=>hz (e▸hy),h.g4,h.f5,h.f6,h.f7,h.f8,λ_=>⟨b,c0,c1,c2,c3,c4,eb,cu,by omega,hz,hc,λ_=>hv⟩,λa=> ?_,h.far,λ_=>⟨h6,h9⟩,h.f12,h.f13⟩;obtain ⟨b2,d0,d1,d2,h1,h2,h3,h4,h5,h6⟩:=h.f10 a;exact ⟨b2,d0,d1,d2,h1,h2,by omega,h4,(hk b2 λe=>h.far b b2 h9 a eb h1 e.symm).trans h5,h6⟩
theorem AwS.s12 (h:AwS W B l v Z w)(h4:l 4=true)(h7:l 7=true)(lr:l 10=true){b:Nat}(eb:v 4= .pointer (some ⟨b,0,none⟩))(cu:W.heap.size<=b)(hz:¬Z b){c0 c1 c2:Value}(hs:w'.heap.size=w.heap.size)(ho:w'.os=w.os/\w'.tape=w.tape/\w'.output=w.output)(hk:∀x,x≠b->w'.heap[x]? =w.heap[x]?)(hc:w'.heap[b]? =some (.cells #[c0,c1,c2] 33 (0,0)))(hv:v 20= .agg #[c0,c1,c2])(hlt:b<w.heap.size):AwS W B (QN l 12 true) v Z w':=by
 have n:∀{p:Prop},l 4=false->p:=λe=>by rw [h4] at e;cases e
 refine ⟨⟨ho.1.trans h.below.os,ho.2.1.trans h.below.tape,ho.2.2.trans h.below.output,by rw [hs];exact h.below.size,λk bU=>(hk k (by omega)).trans (h.below.block k bU)⟩,λy hy=>by rw [hs];exact h.zlt y hy,λ_ e=>n e,h.f1,λ_ e=>n e,λ_ e=>n e,λe=>(h.f4 e).on λy hy=>hk y λe=>hz (e▸hy),h.g4,h.f5,h.f6,h.f7,h.f8,λa=> ?_,λ_=>⟨b,c0,c1,c2,eb,cu,by omega,hz,hc,λ_=>hv⟩,h.far,h.f11,λ_=>⟨h7,lr⟩,h.f13⟩;obtain ⟨b2,d0,d1,d2,d3,d4,h1,h2,h3,h4,h5,h6⟩:=h.f9 a;exact ⟨b2,d0,d1,d2,d3,d4,h1,h2,by omega,h4,(hk b2 λe=>h.far b2 b a lr h1 eb e).trans h5,h6⟩
theorem AwS.s13 (h:AwS W B l v Z w)(h8:l 8=true):AwS W B (QN l 13 true) (QN v 5 (v 21)) Z w:=
 ⟨h.below,h.zlt,h.f0,h.f1,h.f2,h.f3,h.f4,h.g4,h.f5,h.f6,h.f7,h.f8,h.f9,h.f10,h.far,h.f11,h.f12,λ_=>⟨h8,rfl⟩⟩
end
def T6 (B:Nat)(v:Nat->Value):Act:={tmps:= #[.bool false,.pointer (some ⟨B,0,none⟩),.pointer (some ⟨B+1+1,0,none⟩),v 3,v 4,v 5,undef,undef,.agg #[.int .i64 4,.string ⟨#[78,105,108]⟩,.int .i64 0,.slice none 0 0],.agg #[.int .i64 2,.string ⟨#[120]⟩,.int .i64 0,.slice none 0 0],.agg #[.int .i64 4,.string ⟨#[78,105,108]⟩,.int .i64 0,.slice none 0 0],.slice (some ⟨B+1,0,none⟩) 2 2,.agg #[.int .i64 4,.string ⟨#[67,111,110,115]⟩,.int .i64 0,.slice (some ⟨B+1,0,none⟩) 2 2],v 13,v 14,v 15,v 16,v 17,v 18,v 19,v 20,v 21,undef,undef,undef,undef,undef,undef,undef,undef,undef,undef,undef,undef,undef,undef,undef,undef,undef,undef,undef,undef,undef,undef,undef,undef,undef,undef,undef,undef,undef,undef,undef,undef,undef,undef,undef,undef,undef,undef,undef,undef,undef,undef,undef,undef,undef,undef,undef,undef,undef,undef,undef,undef,undef,undef,undef,undef,undef,undef,undef,undef,undef,undef,undef,undef,undef,undef,undef,undef,undef],defers:=[]}
def AwI (W:World)(B:Nat)(ah:Array Bool)(a:Act)(w:World):Prop:=∃l v Z,ah= #[l 0,l 1,l 2,l 3,l 4,l 5,l 6,l 7,l 8,l 9,l 10,l 11,l 12,l 13]/\a=T6 B v/\AwS W B l v Z w
def Ju:List (List Nat):=[[],[],[1],[2],[0,3],[4],[5],[5],[5],[],[],[9,6],[10,7,11],[8,12]]
theorem bd1 (w:World):Calls Tryz.prog 4 #[] w λr w'=>Below w.heap.size w w'/\r= .returned (.bool true):=by
 go_enter Tryz.func4,Tryz.ntmps4
 go_upto_region 3 with fail
 obtain ⟨W,hW⟩:∃W,W=((w.alloc (Obj.cells #[.int .i64 4,.string ⟨#[78,105,108]⟩,.int .i64 0,.slice none 0 0] 50)).alloc (Obj.cells #[.int .i64 2,.string ⟨#[120]⟩,.int .i64 0,.slice none 0 0,.int .i64 4,.string ⟨#[78,105,108]⟩,.int .i64 0,.slice none 0 0] 50)).alloc (Obj.cells #[.int .i64 4,.string ⟨#[67,111,110,115]⟩,.int .i64 0,.slice (some ⟨w.heap.size+1,0,none⟩) 2 2] 50):=⟨_,rfl⟩;rw [<-hW];have HW:Hid (Below w.heap.size w W/\W.heap.size=w.heap.size+3/\W.heap[w.heap.size+1]? =some (.cells #[.int .i64 2,.string ⟨#[120]⟩,.int .i64 0,.slice none 0 0,.int .i64 4,.string ⟨#[78,105,108]⟩,.int .i64 0,.slice none 0 0] 50 (0,0))/\W.heap[w.heap.size+1+1]? =some (.cells (Tc w.heap.size) 50 (0,0))):=by
  refine ⟨?_,by rw [hW];simp,?_,?_⟩
  ·rw [hW];exact (((Pb _ _).alloc (P6 _) _).alloc (by simp) _).alloc (by simp;omega) _
  ·rw [hW,Qq _ _ _ (by simp)];have e:(w.alloc (Obj.cells #[.int .i64 4,.string ⟨#[78,105,108]⟩,.int .i64 0,.slice none 0 0] 50)).heap.size=w.heap.size+1:=by simp
   rw [<-e];exact PF _ _
  rw [hW];have e:((w.alloc (Obj.cells #[.int .i64 4,.string ⟨#[78,105,108]⟩,.int .i64 0,.slice none 0 0] 50)).alloc (Obj.cells #[.int .i64 2,.string ⟨#[120]⟩,.int .i64 0,.slice none 0 0,.int .i64 4,.string ⟨#[78,105,108]⟩,.int .i64 0,.slice none 0 0] 50)).heap.size=w.heap.size+1+1:=by simp
  rw [<-e];exact PF _ _
 clear hW;rename_i Q0 K hK;have HK:=P4 hK;clear hK;refine ba1 (by kernel_rfl) (AwI W w.heap.size) ?_ ?_ ?_
 ·exact ⟨λ_=>false,λ_=>undef,λ_=>False,rfl,rfl,AwS.start' _ _ _⟩
 ·rintro ah a u ⟨l,v,Z,rfl,rfl,hs⟩ i hi;obtain ⟨hlt,d7,hp⟩:=bc1 Ju (by kernel_rfl) hi;clear hi;have HS:=P4 hs;have hb:=hs.below;clear hs;have hlt:i<14:=hlt;rcases (by omega:i=0\/i=1\/i=2\/i=3\/i=4\/i=5\/i=6\/i=7\/i=8\/i=9\/i=10\/i=11\/i=12\/i=13) with rfl | rfl | rfl | rfl | rfl | rfl | rfl | rfl | rfl | rfl | rfl | rfl | rfl | rfl
  ·refine wpOp_step (o:=_) rfl (λK1 cU=> ?_);have bz:=P4 cU;clear cU;unfold T6;go_simp;refine Pe (ay1 u) ?_;rintro r u1 ⟨hb1,rfl,hz,hF⟩;exact bz.out _ _ ⟨QN l 0 true,QN v 14 _,Z,rfl,rfl,(HS.on hb1).s0 (hF.up λy hy=>hy.2)⟩
  ·have hc:u.heap[w.heap.size+1+1]? =some (.cells (Tc w.heap.size) 50 (0,0)):=(hb.block _ (by rw [HW.out.2.1];omega)).trans HW.out.2.2.2;have c0:u.cell? ⟨w.heap.size+1+1,0,none⟩=some (.int .i64 4):=P5 hc rfl;have c1:u.cell? ⟨w.heap.size+1+1,1,none⟩=some (.string ⟨#[67,111,110,115]⟩):=P5 hc rfl;have c2:u.cell? ⟨w.heap.size+1+1,2,none⟩=some (.int .i64 0):=P5 hc rfl;have c3:u.cell? ⟨w.heap.size+1+1,3,none⟩=some (.slice (some ⟨w.heap.size+1,0,none⟩) 2 2):=P5 hc rfl;clear hc hb;refine wpOp_step (o:=_) rfl (λK1 cU=> ?_);have bz:=P4 cU;clear cU;unfold T6;go_simp;exact bz.out _ _ ⟨QN l 1 true,QN v 15 (.agg (Tc w.heap.size)),Z,rfl,rfl,HS.s1⟩
  ·have l1:l 1=true:=hp 1 (by decide);have e:=HS.f1 l1;unfold Tc at e;refine wpOp_step (o:=_) rfl (λK1 cU=> ?_);have bz:=P4 cU;clear cU;unfold T6;rw [e];have HE:=P4 e;clear e;go_simp;have k:=(HS.on ((Pb _ _).alloc (P6 _) (Obj.cells (Tc w.heap.size) 50))).s2 (by simp) (PF _ _);exact bz.out _ _ ⟨QN l 2 true,QN v 16 _,Z,rfl,(by unfold T6;rw [show QN v 16 _ 15=_ from HE.out];rfl),k⟩
  ·have l2:l 2=true:=hp 2 (by decide);have l4:l 4=false:=by
    have h3:l 3=false:=d7;cases h:l 4 with
    | false=>rfl
    | true=>have:=HS.out.g4 h;rw [h3] at this;cases this
   obtain ⟨g,hg,e,hc⟩:=HS.f2 l2 l4;have HG:=Qh hg hc;clear hg hc;refine wpOp_step (o:=_) rfl (λK1 cU=> ?_);have bz:=P4 cU;clear cU;unfold T6;rw [e];have HE:=P4 e;clear e;go_simp;have hA:=(hb.block (w.heap.size+1) (by rw [HW.out.2.1];omega)).trans HW.out.2.2.1;have cc5:w.heap.size+1<u.heap.size:=by have:=HW.2.1;have:=hb.size;omega
   have k:=(HS.on ((Pb _ _).alloc (P6 _) (Obj.cells #[.slice (some ⟨g,0,none⟩) 1 1] 31))).s3 (Z7 (A:=w.heap.size+1) (X:=g) (Y:=u.heap.size) ((Qq _ _ _ cc5).trans hA) ((Qq _ _ _ HG.1).trans HG.2) (PF _ _) (by simp;omega) (by simp;have:=HG.1;omega) (by simp));exact bz.out _ _ ⟨QN l 3 true,QN v 17 _,Z,rfl,(by unfold T6;rw [show QN v 17 _ 16=_ from HE.out];rfl),k⟩
  ·have l0:l 0=true:=hp 0 (by decide);have l3:l 3=true:=hp 3 (by decide);have l4:l 4=false:=d7;obtain ⟨g,e,hF⟩:=HS.f0 l0 l4;have hR:=HS.f3 l3 l4;rw [e] at hF;obtain ⟨F,Bp⟩:∃F,F=5001:=⟨_,rfl⟩;have CA:=Vj Bp (some ⟨g,0,none⟩) 1 (v 17) (λ_ h=>h) hF hR;clear hF hR Bp;refine wpOp_step (o:=_) rfl (λK1 cU=> ?_);have bz:=P4 cU;clear cU;unfold T6;rw [e];have HE:=P4 e;clear e;go_simp;refine Pe CA ?_;rintro r u1 ⟨hb1,x,rfl,hA⟩;exact bz.out _ _ ⟨QN l 4 true,QN v 18 x,_,rfl,(by unfold T6;rw [show QN v 18 _ 14=_ from HE.out];rfl),HS.out.s4 l4 l3 hb1 hA⟩
  ·have l4:l 4=true:=hp 4 (by decide);refine wpOp_step (o:=_) rfl (λK1 cU=> ?_);have bz:=P4 cU;clear cU;unfold T6;go_simp;exact bz.out _ _ ⟨QN l 5 true,QN v 13 (v 18),Z,rfl,rfl,HS.s5 l4⟩
  ·have l5:l 5=true:=hp 5 (by decide);have h6:l 6=false:=d7;obtain ⟨l4,oW⟩:=HS.f5 l5;obtain ⟨p0,p1,p2,q0,q1,q2,r0,r1,r2,x0,x1,x2,y0,y1,y2,e⟩:=(HS.f4 l4).tup;have HE:=P4 e;rw [e] at oW;clear e;refine wpOp_step (o:=_) rfl (λK1 cU=> ?_);have bz:=P4 cU;clear cU;unfold T6;rw [oW];go_simp;rw [<-oW];exact bz.out _ _ ⟨QN l 6 true,QN v 19 (.agg #[.int .i64 3,.int .i64 0,.slice p0 p1 p2,.slice q0 q1 q2,.slice r0 r1 r2]),Z,rfl,rfl,HS.s6 l4 h6 HE.out⟩
  ·have l5:l 5=true:=hp 5 (by decide);have h7:l 7=false:=d7;obtain ⟨l4,oW⟩:=HS.f5 l5;obtain ⟨p0,p1,p2,q0,q1,q2,r0,r1,r2,x0,x1,x2,y0,y1,y2,e⟩:=(HS.f4 l4).tup;have HE:=P4 e;rw [e] at oW;clear e;refine wpOp_step (o:=_) rfl (λK1 cU=> ?_);have bz:=P4 cU;clear cU;unfold T6;rw [oW];go_simp;rw [<-oW];exact bz.out _ _ ⟨QN l 7 true,QN v 20 (.agg #[.bool false,.slice x0 x1 x2,.slice y0 y1 y2]),Z,rfl,rfl,HS.s7 l4 h7 HE.out⟩
  ·have l5:l 5=true:=hp 5 (by decide);have h8:l 8=false:=d7;obtain ⟨l4,oW⟩:=HS.f5 l5;obtain ⟨p0,p1,p2,q0,q1,q2,r0,r1,r2,x0,x1,x2,y0,y1,y2,e⟩:=(HS.f4 l4).tup;have HE:=P4 e;rw [e] at oW;clear e;refine wpOp_step (o:=_) rfl (λK1 cU=> ?_);have bz:=P4 cU;clear cU;unfold T6;rw [oW];go_simp;rw [<-oW];exact bz.out _ _ ⟨QN l 8 true,QN v 21 (.int .i64 0),Z,rfl,rfl,HS.s8 l4 h8 HE.out⟩
  ·have h9:l 9=false:=d7;refine wpOp_step (o:=_) rfl (λK1 cU=> ?_);have bz:=P4 cU;clear cU;unfold T6;go_simp;exact bz.out _ _ ⟨QN l 9 true,QN v 3 _,Z,rfl,rfl,HS.s9 h9 _ _ _ _ _⟩
  ·have lr:l 10=false:=d7;refine wpOp_step (o:=_) rfl (λK1 cU=> ?_);have bz:=P4 cU;clear cU;unfold T6;go_simp;exact bz.out _ _ ⟨QN l 10 true,QN v 4 _,Z,rfl,rfl,HS.s10 lr _ _ _⟩
  ·have l9:l 9=true:=hp 9 (by decide);have l6:l 6=true:=hp 6 (by decide);obtain ⟨l4,y,z,qg⟩:=HS.f6 l6;obtain ⟨p0,p1,p2,q0,q1,q2,r0,r1,r2,x0,x1,x2,y0,y1,y2,e⟩:=(HS.f4 l4).tup;obtain ⟨b,c0,c1,c2,c3,c4,eb,cu,dS,hz,hc,_⟩:=HS.f9 l9;have ev:v 19= .agg #[.int .i64 3,.int .i64 0,.slice p0 p1 p2,.slice q0 q1 q2,.slice r0 r1 r2]:=by
    have:=qg.symm.trans e;injection this with this;injection this with this;injection this
   have HE:=P4 ev;have HB:=S6 eb cu dS hz;clear qg e cu dS hz hb;have s0:u.cell? ⟨b,0,none⟩=some c0:=P5 hc rfl;have z0:=Pp (o:=0) hc;have s1:u.cell? ⟨b,1,none⟩=some c1:=P5 hc rfl;have z1:=Pp (o:=1) hc;have s2:u.cell? ⟨b,2,none⟩=some c2:=P5 hc rfl;have z2:=Pp (o:=2) hc;have s3:u.cell? ⟨b,3,none⟩=some c3:=P5 hc rfl;have z3:=Pp (o:=3) hc;have s4:u.cell? ⟨b,4,none⟩=some c4:=P5 hc rfl;have z4:=Pp (o:=4) hc;obtain ⟨U,hU,aG,bj,c9,aP⟩:=Ud hc (.int .i64 3) (.int .i64 0) (.slice p0 p1 p2) (.slice q0 q1 q2) (.slice r0 r1 r2);have HU:=S6 bj c9 aP aG;clear bj c9 aP aG hc;refine wpOp_step (o:=_) rfl (λK1 cU=> ?_);have bz:=P4 cU;clear cU;unfold T6;rw [eb,ev];clear eb ev;go_simp;rw [<-hU];rw [<-HB.out.1,<-HE.out];exact bz.out _ _ ⟨QN l 11 true,v,Z,rfl,rfl,HS.s11 l4 l6 l9 HB.1 HB.2.1 HB.2.2.2 HU.1 HU.2.2.1 HU.2.1 HU.2.2.2 HE.out HB.2.2.1⟩
  ·have IN:l 10=true:=hp 10 (by decide);have l7:l 7=true:=hp 7 (by decide);obtain ⟨l4,y,z,qg⟩:=HS.f7 l7;obtain ⟨p0,p1,p2,q0,q1,q2,r0,r1,r2,x0,x1,x2,y0,y1,y2,e⟩:=(HS.f4 l4).tup;obtain ⟨b,c0,c1,c2,eb,cu,dS,hz,hc,_⟩:=HS.f10 IN;have ev:v 20= .agg #[.bool false,.slice x0 x1 x2,.slice y0 y1 y2]:=by
    have:=qg.symm.trans e;injection this with this;injection this with this;injection this with _ this;injection this
   have HE:=P4 ev;have HB:=S6 eb cu dS hz;clear qg e cu dS hz hb;have s0:u.cell? ⟨b,0,none⟩=some c0:=P5 hc rfl;have z0:=Pp (o:=0) hc;have s1:u.cell? ⟨b,1,none⟩=some c1:=P5 hc rfl;have z1:=Pp (o:=1) hc;have s2:u.cell? ⟨b,2,none⟩=some c2:=P5 hc rfl;have z2:=Pp (o:=2) hc;obtain ⟨U,hU,aG,bj,c9,aP⟩:=XV hc (.bool false) (.slice x0 x1 x2) (.slice y0 y1 y2);have HU:=S6 bj c9 aP aG;clear bj c9 aP aG hc;refine wpOp_step (o:=_) rfl (λK1 cU=> ?_);have bz:=P4 cU;clear cU;unfold T6;rw [eb,ev];clear eb ev;go_simp;rw [<-hU];rw [<-HB.out.1,<-HE.out];exact bz.out _ _ ⟨QN l 12 true,v,Z,rfl,rfl,HS.s12 l4 l7 IN HB.1 HB.2.1 HB.2.2.2 HU.1 HU.2.2.1 HU.2.1 HU.2.2.2 HE.out HB.2.2.1⟩
  have l8:l 8=true:=hp 8 (by decide);refine wpOp_step (o:=_) rfl (λK1 cU=> ?_);have bz:=P4 cU;clear cU;unfold T6;go_simp;exact bz.out _ _ ⟨QN l 13 true,QN v 5 (v 21),Z,rfl,rfl,HS.s13 l8⟩
 rintro ah a u ⟨l,v,Z,rfl,rfl,hs⟩ hr;have aQ:∀i,i<14->(#[l 0,l 1,l 2,l 3,l 4,l 5,l 6,l 7,l 8,l 9,l 10,l 11,l 12,l 13]:Array Bool).getD i true=true:=λi hi=>LU (by kernel_rfl) hr 14 i hi hi;clear hr;show K _ _;refine HK.out _ _ ?_;clear HK;obtain ⟨pa,pc,gc,oc,cc,ge,oe,ec,ad1,c1,gm,om,cm,qg,⟨z1,z2,z3⟩,y0,y1,y2,dH,dI,fG,jD,fq,fH,jE,eB,⟨k2,k3,k4,k5,k6⟩,hN⟩:=hs.f4 (aQ 4 (by decide));have IP:=hs.zlt;have bK:=hs.zlt _ z1;have bJ:=hs.zlt _ z2;have yS:=hs.zlt _ z3;have IQ:v 19= .agg #[.int .i64 3,.int .i64 0,.slice pa 1 pc,.slice (some ⟨gc,oc,none⟩) 1 cc,.slice (some ⟨ge,oe,none⟩) 1 ec]:=by
  obtain ⟨_,y,z,e⟩:=hs.f6 (aQ 6 (by decide));have:=e.symm.trans qg;injection this with this;injection this with this;injection this
 have IR:v 20= .agg #[.bool false,.slice ad1 0 c1,.slice (some ⟨gm,om,none⟩) 1 cm]:=by
  obtain ⟨_,y,z,e⟩:=hs.f7 (aQ 7 (by decide));have:=e.symm.trans qg;injection this with this;injection this with this;injection this with _ this;injection this
 have e5:v 5= .int .i64 0:=by
  obtain ⟨_,y,z,e⟩:=hs.f8 (aQ 8 (by decide));have:=e.symm.trans qg;injection this with this;injection this with this;injection this with _ this;injection this with _ this;injection this with this;exact (hs.f13 (aQ 13 (by decide))).2.trans this
 obtain ⟨b3,d0,d1,d2,d3,d4,e3,nt,hb3,_,hc3,hv3⟩:=hs.f9 (aQ 9 (by decide));obtain ⟨b4,g0,g1,g2,e4,cm3,hb4,_,jA,IS⟩:=hs.f10 (aQ 10 (by decide));have yB:=(hv3 (aQ 11 (by decide))).symm.trans IQ;have yC:=(IS (aQ 12 (by decide))).symm.trans IR;injection yB with yB;injection yC with yC;rw [yB] at hc3;rw [yC] at jA;have jr:=HW.1.trans (hs.below.mono HW.1.size);have IT:=P4 jr;have Ag:w.heap.size<=u.heap.size:=jr.size;clear yB yC hv3 IS IQ IR qg hs aQ HW jr;obtain ⟨X,hX⟩:∃X,X=(u.alloc (Obj.cells #[.int .i64 3,.int .i64 0,.slice dH 2 dI,.slice fG jD fq,.slice fH jE eB] 30)).alloc (Obj.cells #[.int .i64 0,.int .i64 1] 3):=⟨_,rfl⟩;have o8:Below u.heap.size u X:=by rw [hX];exact ((Pb _ _).alloc (P6 _) _).alloc (by simp) _
 have gV:X.heap.size=u.heap.size+1+1:=by rw [hX];simp
 have jY:X.heap[u.heap.size]? =some (Obj.cells #[.int .i64 3,.int .i64 0,.slice dH 2 dI,.slice fG jD fq,.slice fH jE eB] 30 (0,0)):=by
  rw [hX,Qq _ _ _ (by simp)];exact PF _ _
 have Fj:X.heap[u.heap.size+1]? =some (Obj.cells #[.int .i64 0,.int .i64 1] 3 (0,0)):=by
  have e:(u.alloc (Obj.cells #[.int .i64 3,.int .i64 0,.slice dH 2 dI,.slice fG jD fq,.slice fH jE eB] 30)).heap.size=u.heap.size+1:=by simp
  rw [hX,<-e];exact PF _ _
 have CN:Calls Tryz.prog 18 #[.slice dH 2 dI,.slice (some ⟨u.heap.size+1,0,none⟩) 2 2] X λr w'=>r= .returned (.bool true)/\Below X.heap.size X w':=by
  refine FQ (S:=λy=>y<X.heap.size) _ _ [0,1] (λ_ h=>h) ((hN.up (S':=λy=>y<u.heap.size) ?_).on (OZ.of o8 λ_ h=>h) |>.up λy hy=>PQ hy o8.size) (.inr ⟨u.heap.size+1,0,2,rfl,by simp,by simp,λj hj=> ?_⟩) (by simp)
  ·exact IP
  match j,hj with
  | 0,_=>exact ⟨by omega,P5 Fj rfl⟩
  | 1,_=>exact ⟨by omega,P5 Fj rfl⟩
 have mN:Hid (∀w1,Below X.heap.size X w1->Below w.heap.size w w1/\(w1.cell? ⟨b3,3,none⟩=some (.slice (some ⟨gc,oc,none⟩) 1 cc)/\w1.cell? ⟨gc,oc,none⟩=some (.string ⟨#[67,111,110,115]⟩)/\w1.cell? ⟨u.heap.size,0,none⟩=some (.int .i64 3)/\w1.cell? ⟨b4,0,none⟩=some (.bool false)/\w1.cell? ⟨b4,2,none⟩=some (.slice (some ⟨gm,om,none⟩) 1 cm)/\w1.cell? ⟨gm,om+1,none⟩=some (.string ⟨#[67,111,110,115]⟩))):=λw1 hb1=>by
  have hb:Below u.heap.size u w1:=o8.trans (hb1.mono o8.size);refine ⟨IT.trans (hb.mono Ag),?_,?_,?_,?_,?_,?_⟩
  ·exact (hb.cell (p:=⟨b3,3,none⟩) hb3).trans (P5 hc3 rfl)
  ·exact (hb.cell (p:=⟨gc,oc,none⟩) bK).trans y2
  ·exact (hb1.cell (p:=⟨u.heap.size,0,none⟩) (by show u.heap.size<_;omega)).trans (P5 jY rfl)
  ·exact (hb.cell (p:=⟨b4,0,none⟩) hb4).trans (P5 jA rfl)
  ·exact (hb.cell (p:=⟨b4,2,none⟩) hb4).trans (P5 jA rfl)
  exact (hb.cell (p:=⟨gm,om+1,none⟩) yS).trans y1
 have i0:u.cell? ⟨b3,0,none⟩=some (.int .i64 3):=P5 hc3 rfl;have i3:u.cell? ⟨b3,3,none⟩=some (.slice (some ⟨gc,oc,none⟩) 1 cc):=P5 hc3 rfl;have i4:u.cell? ⟨b3,4,none⟩=some (.slice (some ⟨ge,oe,none⟩) 1 ec):=P5 hc3 rfl;rw [hX] at CN mN;clear hc3 jA o8 gV jY Fj hX y1 y2 bK bJ yS z1 z2 z3 IP hN nt cm3 hb3 hb4 Ag IT;unfold T6;rw [e3,e4,e5];clear e3 e4 e5
 go_wp2_with (first | (go_at_call 18;(with_reducible refine Pe CN ?_);rintro e' w1 ⟨rfl,hb1⟩;obtain ⟨az,m0,m1,m2,m3,m4,m5⟩:=mN.out w1 hb1;clear hb1))
 refine Qv (v:= .bool true) (by simp [results,Tryz.results4,go_sem]) rfl ?_;exact ⟨az,rfl⟩
