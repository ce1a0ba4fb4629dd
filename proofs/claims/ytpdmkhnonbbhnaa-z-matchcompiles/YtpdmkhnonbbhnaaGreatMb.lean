import Derived.Test.YtpdmkhnonbbhnaaGreatMa
import Derived.Test.YtpdmkhnonbbhnaaGreatMcx
namespace Go.Proofs.YtpdmkhnonbbhnaaGreat
open Go.RowKit Go.Maps
set_option maxHeartbeats 4000000
set_option maxRecDepth 10000
variable {w:World}{b:Nat}
theorem P0 {i:Nat}{c:Array Value}{t:TypeId}{f:Nat×Nat}{u:Value}(h:w.heap[b]? =some (.cells c t f))(hu:c[i]? =some u):w.cell? ⟨b,i,none⟩=some u:=by
 simp only [World.cell?,h];exact hu
theorem Qn (w:World)(o:Obj):(w.alloc o).heap[w.heap.size]? =some o:=by
 show (w.heap.push o)[w.heap.size]? =_;simp
theorem zz1 {S:Nat->Prop}{g o:Nat}{p:Pt}{k:Kn}(fa:Option Addr)(fl fc:Nat)(hS:∀b,S b->b<w.heap.size)(hM:PP w b k)(hp:RN w S g o p):
  Calls Tryz.prog 85 #[.agg #[.slice fa fl fc,.map (some b)],.pointer (some ⟨g,o,none⟩)] w λr w'=>r= .returned (.bool (Q8 k p))/\Below w.heap.size w w':=by
 obtain ⟨h0,c0,c1,c2,l1,l2,ad,cap,c3,_⟩:=hp.open;have hg:=hS _ h0;by_cases e3:p.kind=3
 ·have hR:Q8 k p=(decide (-4611686018427387904<=p.num) && decide (p.num<=4611686018427387903)):=by unfold Q8;rw [Pc e3]
  rw [hR];rw [e3] at c0;generalize p.num=x at c2;clear hR e3 c1 c3 hM hp hS;by_cases h1:-4611686018427387904<=x
  ·by_cases h2:x<=4611686018427387903
   ·rw [T7 h1,T7 h2];go_enter Tryz.func85,Tryz.ntmps85;go_wp2;go_ret;exact ⟨rfl,(Pb _ _).alloc (P6 _) _⟩
   rw [T7 h1,Ti h2];have sJ:4611686018427387903<x:=by omega
   go_enter Tryz.func85,Tryz.ntmps85;go_wp2;go_ret;exact ⟨rfl,(Pb _ _).alloc (P6 _) _⟩
  rw [Ti h1];have sJ:x< -4611686018427387904:=by omega
  go_enter Tryz.func85,Tryz.ntmps85;go_wp2;go_ret;exact ⟨rfl,(Pb _ _).alloc (P6 _) _⟩
 by_cases e4:p.kind=4
 ·have hR:Q8 k p=((look k p.name).isSome && decide (p.kids.length=(O' k p.name).2.2)):=by
   unfold Q8 O';rw [P7 e3,Pc e4];cases look k p.name with
   | none=>rfl
   | some c=>simp [BEq.beq]
  rw [hR];rw [e4] at c0;have hW:∃W,W=w.alloc (Obj.cells #[.slice fa fl fc,.map (some b)] 69)/\Below w.heap.size w W/\W.heap.size=w.heap.size+1/\W.cell? ⟨w.heap.size,1,none⟩=some (.map (some b)):=⟨_,rfl,(Pb _ _).alloc (P6 _) _,by simp,P0 (Qn w _) rfl⟩;obtain ⟨W,hW,an,aO,d1⟩:=hW;have dD:=P4 an;have a0:=(an.cell (p:=⟨g,o,none⟩) hg).trans c0;have a1:=(an.cell (p:=⟨g,o+1,none⟩) hg).trans c1;have a3:=(an.cell (p:=⟨g,o+3,none⟩) hg).trans c3;have pM:PP W b k:=hM.on (an.block b (Mv.lt hM));have eD:(Instr.lookup 67 (.map (some b)) (.string ⟨p.name.toArray⟩) true).run Tryz.prog W.drew= .ok (.tuple #[kV (O' k p.name),.bool (look k p.name).isSome]) W.drew:=PP.look (pM.on (w':=W.drew) rfl) _ l1;have cj:∀x,(Instr.lookup 67 (.map (some b)) (.string ⟨p.name.toArray⟩) true).run Tryz.prog ((W.alloc (Obj.cells x 100)).drew)= .ok (.tuple #[kV (O' k p.name),.bool (look k p.name).isSome]) ((W.alloc (Obj.cells x 100)).drew):=λx=>PP.look ((pM.on (w':=W.alloc (Obj.cells x 100)) (Qq _ _ _ (Mv.lt pM))).on (w':=(W.alloc (Obj.cells x 100)).drew) rfl) _ l1;unfold kV at eD cj;have at5:g<W.heap.size:=by omega
  generalize O' k p.name=c at *
  generalize (look k p.name).isSome=y at *
  generalize (⟨p.name.toArray⟩:ByteArray)=nm at *
  generalize p.kids.length=n at *
  have hX:w.heap.size<W.heap.size:=by omega
  have Dn:=P4 aO;clear hR c0 c1 c2 c3 hM hp hS pM an l1 e3 e4 aO;go_enter Tryz.func85,Tryz.ntmps85
  go_upto_region 1 with fail
  rw [<-hW];clear hW
  go_upto_region 5 with fail
  go_region
  all_goals
   have aS:Hid (Below w.heap.size w (W.alloc (Obj.cells #[.int .i64 c.1,.int .i64 c.2.1,.int .i64 c.2.2] 100))):=dD.alloc (by omega) _;clear eD cj;cases y with
   | false=>
    go_wp2
    go_region
    all_goals
     go_wp2;go_ret;exact ⟨rfl,aS.drew.drew⟩
   | true=>
    by_cases hn:n=c.2.2
    ·have py:((n:Int)==(c.2.2:Int))=true:=by simp [hn]
     go_wp2
     go_region
     all_goals
      go_wp2;go_ret;exact ⟨by rw [T7 hn];rfl,aS.out.drew.drew⟩
    have py:((n:Int)==(c.2.2:Int))=false:=by simp;omega
    have HN:=P4 hn;clear hn;go_wp2
    go_region
    all_goals
     go_wp2;go_ret;exact ⟨by rw [Ti HN.out];rfl,aS.out.drew.drew⟩
 have hR:Q8 k p=false:=by unfold Q8;rw [P7 e3,P7 e4]
 rw [hR];generalize p.kind=x at *
 clear hR c1 c2 c3 hM hp hS;have yB:(x==3)=false:=by simpa using e3
 have yC:(x==4)=false:=by simpa using e4
 go_enter Tryz.func85,Tryz.ntmps85;go_wp2;go_ret;exact ⟨rfl,(Pb _ _).alloc (P6 _) _⟩
