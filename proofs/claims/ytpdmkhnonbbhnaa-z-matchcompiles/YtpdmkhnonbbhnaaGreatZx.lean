import Derived.Test.YtpdmkhnonbbhnaaGreatHp
import Derived.Deep.RegionHeld3
namespace Go.Proofs.YtpdmkhnonbbhnaaGreat
open Go
set_option linter.unusedSimpArgs false
section
variable {P:Program}{al:Array Oper}{Q:Exit->Act->World->Prop}{md:Region.Mode}{S:World->Prop}{L:Nat}
def Sz (P:Program)(md:Region.Mode)(al:Array Oper)(Q:Exit->Act->World->Prop)(S:World->Prop)(L:Nat):Nat->Array Bool->Act->World->Prop
 | 0,ah,a,w=>Region.ready md al ah=[]/\Q .normal a w
 | fuel+1,ah,a,w=>(Region.ready md al ah=[]->Q .normal a w)/\∀i∈Region.ready md al ah,wpOp P al Q i (λa' w'=>(i≠L->S w')/\Sz P md al Q S L fuel (ah.setIfInBounds i true) a' w') a w
theorem JH:∀(fuel:Nat) (ah:Array Bool) (a:Act) (w:World),Sz P md al Q S L fuel ah a w->wpAny P md al Q fuel ah a w
 | 0,_,_,_,h=>h
 | fuel+1,_,_,_,h=>⟨h.1,λi hi=>wpOp_mono (λa' w' h'=>JH fuel _ a' w' h'.2) (h.2 i hi)⟩
theorem cr1 {i:Nat}{oi:Oper}{v:Value}(hi:al[i]? =some oi)(cS:∀(j:Nat) (o:Oper) cs b,al[j]? =some o->o.op≠ .select cs b)
  (hQ:∀c a w,Q (.panic c) (a.put oi.dst v) w->Q (.panic c) a w) (hL:∀oL,al[L]? =some oL->∃e∈oL.after,Region.binds md e=true/\e.on=i):
  ∀(fuel:Nat) (ah:Array Bool) (a:Act) (w:World),
   (∀j oj,al[j]? =some oj->j≠i->ah.getD j true=false->(∀e∈oj.after,Region.binds md e=true->e.on≠i)->oi.apart al oj=true)->
   i∈Region.ready md al ah->YieldsIf P al S oi v a->S w->
   Sz P md al Q S L fuel (ah.setIfInBounds i true) (a.put oi.dst v) w->Sz P md al Q S L (fuel+1) ah a w:=by
 intro fuel
 induction fuel with
 | zero=>
  intro ah a w _ hr hy hS H;refine ⟨λh=>(by rw [h] at hr;cases hr),λj hj=> ?_⟩;by_cases bZ:j=i
  ·subst bZ;exact hy.wpOp hi hS ⟨λ_=>hS,H⟩
  have:=ready_mono hj bZ;rw [H.1] at this;cases this
 | succ fuel ih=>
  intro ah a w ft hr hy hS H;refine ⟨λh=>(by rw [h] at hr;cases hr),λj hj=> ?_⟩;by_cases bZ:j=i
  ·subst bZ;exact hy.wpOp hi hS ⟨λ_=>hS,H⟩
  have h1:=H.2 j (ready_mono hj bZ);obtain ⟨jf,oj,jZ,aQ⟩:=mem_ready.1 hj;have kj:∀e∈oj.after,Region.binds md e=true->e.on≠i:=λe he hb yt=>by
   have h1:=aQ e he hb;have h0:=(mem_ready.1 hr).1;rw [yt] at h1;rcases Sk i ah.size with h' | h'
   ·simp [h'] at h0 h1;rw [h0] at h1;cases h1
   simp [U2 h'] at h1
  have Bo:j≠L:=λe=>by
   subst e;obtain ⟨e,he,hb,ho⟩:=hL oj jZ;exact kj e he hb ho
  have h2:=wpOp_putIf jZ (ft j oj jZ bZ jf kj) (λcs b=>cS i oi cs b hi) (λcs b=>cS j oj cs b jZ) hQ hy h1;have gu:∀k ok,al[k]? =some ok->k≠i->(ah.setIfInBounds j true).getD k true=false->
    (∀e∈ok.after,Region.binds md e=true->e.on≠i)->oi.apart al ok=true:=λk ok hk yu kS hno=>by
   refine ft k ok hk yu ?_ hno;by_cases sG:j=k
   ·subst sG;exact jf
   rw [getD_set_ne true sG] at kS;exact kS
  refine wpOp_mono (λa' w' h3=>⟨λ_=>h3.2.1 Bo,ih (ah.setIfInBounds j true) a' w' gu (ready_mono hr (Ne.symm bZ)) h3.1 (h3.2.1 Bo) ?_⟩) h2;rw [Dg _ _ bZ];exact h3.2.2
def Sl (md:Region.Mode)(al:Array Oper)(L i:Nat):Bool:=match al[L]? with
 | some o=>o.after.any λe=>Region.binds md e && e.on==i
 | none=>true
theorem yj1 {i:Nat}{oi:Oper}{v:Value}{fuel:Nat}{ah:Array Bool}{a:Act}{w:World}(hi:al[i]? =some oi)
  (hs:Region.noSelect al=true) (hf:Region.free md al ah i=true) (hr:(Region.ready md al ah).contains i=true) (hL:Sl md al L i=true)
  (hQ:∀c a w,Q (.panic c) (a.put oi.dst v) w->Q (.panic c) a w) (hy:YieldsIf P al S oi v a) (hS:S w)
  (h:Sz P md al Q S L fuel (ah.setIfInBounds i true) (a.put oi.dst v) w):Sz P md al Q S L (fuel+1) ah a w:=
 cr1 hi (Region.noSelect_spec hs) hQ (λoL ho=>by
  unfold Sl at hL;rw [ho] at hL;obtain ⟨e,he,hb⟩:=Ac.1 hL;simp only [Tj,WY] at hb;exact ⟨e,he,hb.1,hb.2⟩) fuel ah a w (Region.free_spec hi hf) (by simpa using hr) hy hS h
def Uq (k n:Nat):Array Bool:=(List.replicate k true++List.replicate (n-k) false).toArray
theorem Ri {i n:Nat}{oi:Oper}{v:Value}{fuel:Nat}{a:Act}{w:World}(d:Option Tmp)(hi:al[i]? =some oi)(hd:oi.dst=d)(hl:(Uq i n).setIfInBounds i true=Uq (i+1) n)
  (hs:Region.noSelect al=true) (hf:Region.free md al (Uq i n) i=true) (hr:(Region.ready md al (Uq i n)).contains i=true) (hL:Sl md al L i=true)
  (hQ:∀c a w,Q (.panic c) (a.put d v) w->Q (.panic c) a w) (hy:YieldsIf P al S oi v a) (hS:S w)
  (h:Sz P md al Q S L fuel (Uq (i+1) n) (a.put d v) w):Sz P md al Q S L (fuel+1) (Uq i n) a w:=by
 subst hd;exact yj1 hi hs hf hr hL hQ hy hS (by rw [hl];exact h)
theorem SI {i n:Nat}{o:Oper}{fuel:Nat}{a:Act}{w:World}(hr:Region.ready md al (Uq i n)=[i])(ho:al[i]? =some o)(hl:(Uq i n).setIfInBounds i true=Uq (i+1) n)
  (h:∀K':Act->World->Prop,Shut (∀a w,(i≠L->S w)->Sz P md al Q S L fuel (Uq (i+1) n) a w->K' a w)->if Region.wanted o (yielded al a.tmps)=true then Oper.wp P o a w K' Q else K' (a.put o.dst undef) w):Sz P md al Q S L (fuel+1) (Uq i n) a w:=by
 refine ⟨λh0=> ?_,λj hj=> ?_⟩
 ·rw [hr] at h0;cases h0
 rw [hr] at hj;obtain rfl:=Ra.1 hj;exact wpOp_step ho λK' hK=>h K' λa w hS hW=>hK a w ⟨hS,by rw [hl];exact hW⟩
theorem Yn {ah:Array Bool}{a:Act}{w:World}(hr:Region.ready md al ah=[])(h:Q .normal a w):∀fuel,Sz P md al Q S L fuel ah a w
 | 0=>⟨hr,h⟩
 | _+1=>⟨λ_=>h,by rw [hr];simp⟩
theorem ZO {id n:Nat}{a:Act}{w:World}(hm:P.follows .mixedOrders=true)(hn:al.size=n)(hl:Array.replicate n false=Uq 0 n)(h:Sz P .any al Q S L n (Uq 0 n) a w.drew):(Code.region id al true).wp P Q a w:=by
 subst hn;exact wp_region_any hm (JH _ _ _ _ (by rw [hl];exact h))
end
