/- MatchCompiles answers true at every table of families and rows, and leaves what it was handed as it was: the row's statement. No condition is added. -/
import Derived.Test.YtpdmkhnonbbhnaaGreatMbx
import Derived.Test.YtpdmkhnonbbhnaaGreatJl
namespace Go.Proofs.YtpdmkhnonbbhnaaGreat
open Go.ChangeShapes Go.WideShapes Go.RowKit
set_option maxRecDepth 100000
theorem yz1 (os:Os)(iA:os.Started)(H:Type)(enc:TypeId×Value->H):
  ReturnsInHanded {} Tryz.checked os 3 .any (Rows.matchCompilesSpec.pre6 enc Tryz.prog Tryz.f3 Rows.matchCompilesRow.domain false) (Rows.matchCompilesSpec.post enc Tryz.prog Tryz.f3 false true false false):=by
 refine returnsInHanded_of_change_sized (C:=Tryz.checked) Tryz.own iA (by kernel_rfl) Tryz.func3
  (ChangeSpec.witness6 (enc:=enc) (C:=Tryz.checked) false ⟨#[], #[.slice none 0 0,.slice none 0 0],[]⟩ 8 (by kernel_rfl) (by kernel_rfl) (by kernel_rfl) (by kernel_rfl)) ?_
 intro W base args ds gs ai6 cm7 hW _ tD _;have tN:∀(j:Nat) t v,Tryz.f3.params[j]? =some t->args[j]? =some v->Value.okWide Tryz.prog W .any base t v:=cm7;have hsz:(DataW.weightsEach Tryz.prog (Tryz.f3.params.toList++Rows.matchCompilesSpec.plain.varTypes Tryz.prog) (ds++gs)).all (· <=reachBytes)=true:=tD;have vY:=hW;obtain ⟨p,q,de,tA,rfl,GH,hnd⟩:=hW;have GO:DataW.TrodAll enc Tryz.prog W 0 (λ_=>true) true Tryz.f3.params.toList args.toList ds p:=de;have hV:DataW.TrodVars enc Tryz.prog W (λ_=>true) [] gs q:=tA;rw [Tryz.params3] at GO tN hsz;obtain ⟨v0,v1,d0,d1,p0,p1,rfl,rfl,rfl,h0,h1⟩:=trodAll_two GO;obtain ⟨rfl,rfl⟩:=trodVars_none hV;have z0:∀x∈d0.weights Tryz.prog 22,x<=reachBytes:=λx hx=>by simpa using TK.1 hsz _ (DataW.weights_mem_each (j:=0) (t:=22) rfl rfl x hx)
 have z1:∀x∈d1.weights Tryz.prog 23,x<=reachBytes:=λx hx=>by simpa using TK.1 hsz _ (DataW.weights_mem_each (j:=1) (t:=23) rfl rfl x hx)
 obtain ⟨a0,l0,k0,rfl⟩:=okWide_slice Tryz.underlying22 (tN 0 22 v0 rfl rfl);obtain ⟨a1,l1,k1,rfl⟩:=okWide_slice Tryz.underlying23 (tN 1 23 v1 rfl rfl);obtain ⟨ad,n,cap,fs,e0,gy,hF,aY,pA,_⟩:=bg1 h0.choose_spec z0;obtain ⟨ad1,n1,aL,rows,e1,cR,hR,cH,dU⟩:=bf1 h1.choose_spec z1;have qt:a0=ad/\l0=n/\k0=cap:=by simpa [Value.cells] using e0
 have Dh:a1=ad1/\l1=n1/\k1=aL:=by simpa [Value.cells] using e1
 clear e0 e1;obtain ⟨rfl,rfl,rfl⟩:=qt;obtain ⟨rfl,rfl,rfl⟩:=Dh;subst gy cR;have hlt:∀x∈p0++p1,x.block<W.heap.size:=λx hx=>by simpa using vY.lt x (by simpa using hx)
 have e1:Rows.matchCompilesSpec.fn H ([d0,d1]++[])={results:=[.lit (.bool true)],args:=[d0,d1]}:=rfl;obtain ⟨F,Bp⟩:∃F,F=5001:=⟨_,rfl⟩;have hC:=yu1 Bp fs rows a0 a1 k0 k1 (λ_ h=>h) hF hR aY cH dU pA;refine Pe hC λe W' ⟨cF,he⟩=> ?_;subst he;refine ⟨_,rfl,_,_,_,[],p0++p1,[],vY,?_,?_,?_,cF.frame _,λh=>by cases h⟩
 ·rw [e1];exact trodAll_mk1 (shut_bool Tryz.underlying4 true)
 ·rw [e1];exact trodAll_mk2 (Below.trod Tryz.laidOut (by kernel_rfl) (ZT (by kernel_rfl)) h0 cF (λx hx=>hlt x (Fm _ hx))) (Below.trod Tryz.laidOut (by kernel_rfl) (ZT (by kernel_rfl)) h1 cF (λx hx=>hlt x (List.mem_append_right _ hx)))
 rw [e1];rfl
theorem matchCompiles_holds:Rows.MatchCompilesSaid:=
 OpenClaim.holds_of_wide 3 Tryz.f3 rfl rfl rfl rfl rfl rfl rfl ⟨rfl,rfl,rfl,rfl,rfl⟩ rfl rfl rfl rfl rfl (by kernel_rfl) Tryz.func3 (by kernel_rfl)
  (ZT (by kernel_rfl)) (by unfold Func.isWrapper;rw [P7 (My (by kernel_rfl))];exact ⟨rfl,rfl⟩)
  (λos iA H enc _=>yz1 os iA H enc)
#print axioms matchCompiles_holds
end Go.Proofs.YtpdmkhnonbbhnaaGreat
