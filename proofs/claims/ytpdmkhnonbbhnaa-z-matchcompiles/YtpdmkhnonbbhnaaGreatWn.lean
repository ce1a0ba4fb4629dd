import Derived.Test.YtpdmkhnonbbhnaaGreatHp
import Derived.Deep.RegionHeld3
namespace Go.Proofs.YtpdmkhnonbbhnaaGreat
open Go
variable {al:Array Oper}{P:Program}{Q:Exit->Act->World->Prop}
theorem Mn {md:Region.Mode}(I:Array Bool->Act->World->Prop)
  (lu:∀ah a w,I ah a w->∀i∈Region.ready md al ah,wpOp P al Q i (I (ah.setIfInBounds i true)) a w)
  (eW:∀ah a w,I ah a w->Region.ready md al ah=[]->Q .normal a w):
  ∀(fuel:Nat) (ah:Array Bool) (a:Act) (w:World),I ah a w->ah.toList.count false<=fuel->wpAny P md al Q fuel ah a w
 | 0,ah,a,w,hI,hf=>by
  have hr:Region.ready md al ah=[]:=by
   refine List.eq_nil_iff_forall_not_mem.2 λj hj=> ?_;have h0:=(mem_ready.1 hj).1;have:ah.toList.count false=0:=Nat.le_zero.1 hf;rw [List.count_eq_zero] at this;refine this ?_;by_cases hl:j<ah.size
   ·have:ah.getD j true=ah[j]:=by simp [Array.getD,hl]
    rw [this] at h0;rw [<-h0];exact Array.getElem_mem_toList hl
   simp [Array.getD,hl] at h0
  exact ⟨hr,eW _ _ _ hI hr⟩
 | fuel+1,ah,a,w,hI,hf=>by
  refine ⟨λhr=>eW _ _ _ hI hr,λi hi=>wpOp_mono (λa' w' h=> ?_) (lu _ _ _ hI i hi)⟩;refine Mn I lu eW fuel _ a' w' h ?_;have h0:=(mem_ready.1 hi).1;by_cases hl:i<ah.size
  ·have h1:ah[i]=false:=by simpa [Array.getD,hl] using h0
   have:(ah.setIfInBounds i true).toList.count false+1<=ah.toList.count false:=by
    rw [yL];have h2:ah.toList[i]? =some false:=by simp [hl,h1]
    clear h0 h1 hf hi h hI;generalize ah.toList=l at h2;clear hl
    induction l generalizing i with
    | nil=>simp at h2
    | cons x l ih=>
     cases i with
     | zero=>simp at h2;subst h2;simp
     | succ i=>simp at h2;have:=ih i h2;simp only [PT,List.count_cons];omega
   omega
  simp [Array.getD,hl] at h0
theorem ba1 {id:Nat}{a:Act}{w:World}(hm:P.follows .mixedOrders=true)(I:Array Bool->Act->World->Prop)
  (h0:I (Array.replicate al.size false) a w.drew)
  (lu:∀ah a w,I ah a w->∀i∈Region.ready .any al ah,wpOp P al Q i (I (ah.setIfInBounds i true)) a w)
  (eW:∀ah a w,I ah a w->Region.ready .any al ah=[]->Q .normal a w):(Code.region id al true).wp P Q a w:=
 wp_region_any hm (Mn I lu eW _ _ _ _ h0 (by simp [List.count_replicate_self]))
theorem bc1 {md:Region.Mode}{ah:Array Bool}{i:Nat}(IM:List (List Nat))(hp:((List.range al.size).all λi=>(IM.getD i []).all λj=>match al[i]? with | some o=>o.after.any (λe=>e.on==j && Region.binds md e) | none=>false)=true)(hi:i∈Region.ready md al ah):i<al.size/\ah.getD i true=false/\∀j∈IM.getD i [],ah.getD j false=true:=by
 obtain ⟨h0,o,ho,h⟩:=mem_ready.1 hi;have hlt:i<al.size:=(Oa.1 ho).1;refine ⟨hlt,h0,λj hj=> ?_⟩;have h1:=TK.1 hp i (T2.2 hlt);have h2:=TK.1 h1 j hj;rw [ho] at h2;obtain ⟨e,he,hb⟩:=Ac.1 h2;simp only [Tj,WY] at hb;rw [<-hb.1];exact h e he hb.2
theorem LU {md:Region.Mode}{al:Array Oper}{ah:Array Bool}(hp:((List.range al.size).all λi=>match al[i]? with | some o=>o.after.all (λe=> !Region.binds md e || decide (e.on<i)) | none=>false)=true)(hr:Region.ready md al ah=[]):∀(n i:Nat),i<n->i<al.size->ah.getD i true=true
 | 0,i,h,_=>absurd h (WP _)
 | n+1,i,h,hi=>by
  by_cases hl:ah.getD i true=true
  ·exact hl
  have h1:=TK.1 hp i (T2.2 hi);have hs:al[i]? =some al[i]:=Rm hi;rw [hs] at h1;have hm:i∈Region.ready md al ah:=by
   refine mem_ready.2 ⟨by simpa using hl,al[i],hs,λe he hb=> ?_⟩;have h2:=Array.all_eq_true_iff_forall_mem.1 h1 e he;rw [hb] at h2;have h3:e.on<i:=by simpa using h2
   have h4:=LU hp hr n e.on (by omega) (by omega);by_cases hz:e.on<ah.size
   ·simpa [Array.getD,hz] using h4
   exfalso;refine hl ?_;simp [Array.getD,show ¬i<ah.size by omega]
  rw [hr] at hm;cases hm
def QN {α:Type}(f:Nat->α)(i:Nat)(x:α):Nat->α:=λj=>if j=i then x else f j
