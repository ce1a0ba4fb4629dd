import Derived.Test.YtpdmkhnonbbhnaaGreatHp
import Derived.Maps.OwnSet
namespace Go.Proofs.YtpdmkhnonbbhnaaGreat
open Go.RowKit Go.Maps
variable {w w':World}{b m:Nat}{k:Kn}
def SX:Value:= .agg #[.int .i64 0,.int .i64 0,.int .i64 0]
theorem Xg:Keyed Tryz.prog 9:=string_keyed Tryz.underlying9
theorem YN (n:List UInt8)(hn:n.length<140737488355328):keyOf Tryz.prog 9 (.string ⟨n.toArray⟩)=some (.string n):=by
 have:=Go.WideMaps.keyOf_string_mk (P:=Tryz.prog) Tryz.underlying9 (s:=⟨n.toArray⟩) (by show n.toArray.size<=maxLen;unfold maxLen;simp;omega);simpa using this
def Mo (v:Value):Option (DataW Value×List MemPlace):=some (.held v,[])
def Mv (w:World)(b m:Nat)(s:List UInt8->Option Value):Prop:=
 ∃D:DataW Value,w.ownsMap Tryz.prog 9 Mo b m D/\Maps.size D=m/\∀x,Maps.has D (.string x)=(s x).isSome/\∀v z,s x=some v->D.atKey (.string x) z= .held v
theorem Mv.lt {s:List UInt8->Option Value}(h:Mv w b m s):b<w.heap.size:=by
 obtain ⟨D,h,_⟩:=h;exact h.lt
theorem Mv.on {s:List UInt8->Option Value}(h:Mv w b m s)(hb:w'.heap[b]? =w.heap[b]?):Mv w' b m s:=by
 obtain ⟨D,⟨es,aw6,h1,h2⟩,h3⟩:=h;exact ⟨D,⟨es,aw6,hb.trans h1,h2⟩,h3⟩
theorem Mv.made (w:World):Mv (w.alloc (.map #[] 0)) w.heap.size 0 (λ_=>none):=
 ⟨_,World.ownsMap_made w Tryz.prog 9 Mo,rfl,λx=>⟨rfl,λv z h=>by cases h⟩⟩
theorem Mv.look {s:List UInt8->Option Value}(h:Mv w b m s)(x:List UInt8)(hx:x.length<140737488355328):
  (Instr.lookup 67 (.map (some b)) (.string ⟨x.toArray⟩) true).run Tryz.prog w= .ok (.tuple #[(s x).getD SX,.bool (s x).isSome]) w:=by
 obtain ⟨D,hown,_,hs⟩:=h;obtain ⟨u,ps,h1,h2⟩:=hown.look_ok (zd:= .held SX) (zp:=[]) Xg Tryz.underlying67 (Tryz.zeroValue100 w) rfl (YN x hx);obtain ⟨h3,h4⟩:=hs x;rw [h1,h3];have hu:DataW.held u=D.atKey (.string x) (.held SX):=congrArg Prod.fst (Qs h2);cases hsx:s x with
 | none=>
  rw [hsx] at h3;rw [Maps.atKey_of_not_has h3] at hu;rw [MY hu];simp only [Option.getD_none]
 | some v=>
  rw [h4 v _ hsx] at hu;rw [MY hu];simp only [Ma]
theorem Mv.put {s:List UInt8->Option Value}(h:Mv w b m s)(x:List UInt8)(hx:x.length<140737488355328)(hm:m<100000)(hs:s x=none)(v:Value):
  ∃w',(Instr.mapUpdate 67 (.map (some b)) (.string ⟨x.toArray⟩) v).run Tryz.prog w= .ok () w'/\Mv w' b (m+1) (λy=>if y=x then some v else s y)/\w.grownBy w' (some b):=by
 obtain ⟨D,hown,hsz,hS⟩:=h;obtain ⟨w',h1,h2,h3⟩:=hown.update (d:= .held v) (ps:=[]) Xg Tryz.underlying67 (by unfold maxLen;omega) (YN x hx) rfl;refine ⟨w',h1,⟨_,h2,?_,λy=> ?_⟩,h3⟩
 ·rw [Maps.size_put (hown.tidy Xg),(hS x).1,hs,hsz]
  rfl
 by_cases hy:y=x
 ·subst hy;have hk:WideAt.IsKeyLit (Lit.string y):=trivial;simp only [if_true];exact ⟨by rw [Maps.has_put_same hown.isMap hk];rfl,λu z hu=>by cases hu;exact Maps.atKey_put_same hown.isMap hk _ _⟩
 have am:Lit.string y≠Lit.string x:=λe=>hy (by injection e);simp only [P7 hy];rw [Maps.has_put_other am];exact ⟨(hS y).1,λu z hu=>by rw [Maps.atKey_put_other am];exact (hS y).2 u z hu⟩
theorem Mv.look1 {s:List UInt8->Option Value}(h:Mv w b m s)(x:List UInt8)(hx:x.length<140737488355328):
  (Instr.lookup 67 (.map (some b)) (.string ⟨x.toArray⟩) false).run Tryz.prog w= .ok ((s x).getD SX) w:=by
 obtain ⟨D,hown,_,hs⟩:=h;obtain ⟨u,ps,h1,h2⟩:=hown.lookup (zd:= .held SX) (zp:=[]) Xg Tryz.underlying67 (Tryz.zeroValue100 w) rfl (YN x hx);obtain ⟨h3,h4⟩:=hs x;rw [h1];have hu:DataW.held u=D.atKey (.string x) (.held SX):=congrArg Prod.fst (Qs h2);cases hsx:s x with
 | none=>
  rw [hsx] at h3;rw [Maps.atKey_of_not_has h3] at hu;rw [MY hu];simp only [Option.getD_none]
 | some v=>
  rw [h4 v _ hsx] at hu;rw [MY hu];simp only [Ma]
def kV (c:Nat×Nat×Nat):Value:= .agg #[.int .i64 c.1,.int .i64 c.2.1,.int .i64 c.2.2]
def PP (w:World)(b:Nat)(k:Kn):Prop:=Mv w b k.length (λn=>(look k n).map kV)
theorem PP.on (h:PP w b k)(hb:w'.heap[b]? =w.heap[b]?):PP w' b k:=Mv.on h hb
theorem PP.look (h:PP w b k)(x:List UInt8)(hx:x.length<140737488355328):(Instr.lookup 67 (.map (some b)) (.string ⟨x.toArray⟩) true).run Tryz.prog w= .ok (.tuple #[kV (O' k x),.bool (Go.Proofs.YtpdmkhnonbbhnaaGreat.look k x).isSome]) w:=by
 rw [Mv.look h x hx];unfold O';cases Go.Proofs.YtpdmkhnonbbhnaaGreat.look k x<;>rfl
theorem PP.look1 (h:PP w b k)(x:List UInt8)(hx:x.length<140737488355328):(Instr.lookup 67 (.map (some b)) (.string ⟨x.toArray⟩) false).run Tryz.prog w= .ok (kV (O' k x)) w:=by
 rw [Mv.look1 h x hx];unfold O';cases Go.Proofs.YtpdmkhnonbbhnaaGreat.look k x<;>rfl
