namespace Go.Proofs.YtpdmkhnonbbhnaaGreat
set_option linter.defProp false
def SP:=@List.findIdx?_eq_some_iff_getElem
def G4:=@List.exists_of_findSome?_eq_some
def Yj:=@List.take_succ_eq_append_getElem
def Yd:=@List.eq_nil_of_length_eq_zero
def Q9:=@Array.getElem?_setIfInBounds
def Om:=@Array.getD_eq_getD_getElem?
def Oa:=@Array.getElem?_eq_some_iff
def yL:=@Array.toList_setIfInBounds
def UU:=@List.getD_eq_getElem?_getD
def WS:=@List.getElem?_append_right
def OR:=@List.isPrefixOf_iff_prefix
def PN:=@List.setIfInBounds_toArray
def Rm:=@Array.getElem?_eq_getElem
def Ur:=@List.drop_eq_getElem_cons
def YY:=@List.findIdx?_eq_none_iff
def Xo:=@List.getElem?_append_left
def Tt:=@List.getElem?_eq_some_iff
def WN:=@List.getElem_append_right
def L7:=@List.mem_of_find?_eq_some
def Yr:=@List.mem_take_iff_getElem
def NS:=@List.pairwise_iff_getElem
def Dg:=@Array.setIfInBounds_comm
def Lf:=@Array.size_setIfInBounds
def NI:=@List.filterMap_cons_none
def NK:=@List.filterMap_cons_some
def WR:=@List.filterMap_filterMap
def PR:=@List.getElem?_eq_getElem
def WO:=@List.getElem_append_left
def XH:=@List.length_filterMap_le
def Og:=@Classical.axiomOfChoice
def X1:=@List.filter_cons_of_neg
def X0:=@List.filter_cons_of_pos
def Up:=@List.length_eq_zero_iff
def M':=@Nat.add_sub_cancel_left
def NP:=@Option.bind_eq_some_iff
def La:=@decide_eq_false_iff_not
def U2:=@Array.getElem?_eq_none
def Yb:=@List.drop_eq_nil_of_le
def MT:=@List.getElem_cons_succ
def Yx:=@List.getElem_cons_zero
def On:=@List.getElem_replicate
def Dp:=@List.pairwise_lt_range
def Xi:=@List.take_of_length_le
def VZ:=@Option.map_eq_some_iff
def Aj:=@Array.getElem?_modify
def Nr:=@Array.getElem?_toList
def KQ:=@List.concat_eq_append
def Zb:=@List.contains_iff_mem
def JB:=@List.eq_nil_or_concat
def WL:=@List.filterMap_append
def Z3:=@List.getElem?_eq_none
def LQ:=@List.getElem?_toArray
def YV:=@List.getElem_set_self
def T8:=@List.length_filter_le
def Tq:=@List.length_replicate
def Ug:=@List.take_append_drop
def yA:=@Array.replicate_succ
def KE:=@Array.replicate_zero
def OJ:=@Bool.or_eq_false_iff
def Fm:=@List.mem_append_left
def RI:=@List.mem_cons_of_mem
def Le:=@List.mem_iff_getElem
def Tf:=@List.mem_of_getElem?
def Sn:=@List.mem_of_mem_drop
def Sa:=@List.mem_of_mem_take
def OP:=@List.pairwise_append
def ZE:=@Nat.mul_le_mul_right
def Md:=@List.append_toArray
def Ui:=@List.filterMap_cons
def Oo:=@List.filter_eq_self
def TW:=@List.filter_sublist
def WW:=@List.flatMap_append
def Tu:=@List.flatten_append
def RO:=@List.getElem_of_mem
def Ya:=@List.getElem_set_ne
def Tk:=@List.length_pos_iff
def Zg:=@List.map_congr_left
def JC:=@List.perm_iff_count
def JJ:=@List.take_succ_cons
def Y2:=@beq_eq_false_iff_ne
def Ac:=@Array.any_eq_true'
def Zj:=@Array.ext_getElem?
def O0:=@List.filterMap_map
def Dx:=@List.filterMap_nil
def ZM:=@List.filter_append
def Ec:=@List.find?_eq_none
def LI:=@List.findIdx?_cons
def ZH:=@List.getElem?_take
def X2:=@List.getElem_range
def QP:=@List.length_append
def Op:=@List.mem_cons_self
def SE:=@List.mem_filterMap
def Ra:=@List.mem_singleton
def Lv:=@List.ne_nil_of_mem
def U5:=@List.pairwise_cons
def MM:=@List.prefix_append
def PT:=@List.set_cons_succ
def PS:=@List.set_cons_zero
def ZG:=@List.zip_cons_cons
def PQ:=@Nat.lt_of_lt_of_le
def M3:=@Option.toList_some
def Ol:=@decide_eq_true_iff
def My:=@of_decide_eq_false
def K8:=@List.Pairwise.map
def OQ:=@List.any_eq_false
def T5:=@List.append_assoc
def Ld:=@List.count_append
def Lt:=@List.ext_getElem?
def NA:=@List.filter_congr
def Y5:=@List.flatMap_cons
def U3:=@List.flatten_cons
def Nn:=@List.foldl_append
def X8:=@List.getElem?_map
def Oj:=@List.getElem?_set
def Ym:=@List.getElem_ofFn
def Gp:=@List.getElem_take
def Ow:=@List.length_range
def S7:=@List.nodup_append
def Yu:=@List.pairwise_map
def F8:=@List.push_toArray
def Zw:=@List.size_toArray
def S1:=@List.take_add_one
def M5:=@decide_eq_true_eq
def OS:=@not_false_eq_true
def ZT:=@of_decide_eq_true
def Tj:=@Bool.and_eq_true
def TK:=@List.all_eq_true
def UG:=@List.any_eq_true
def TY:=@List.cons_append
def OK:=@List.filter_cons
def R7:=@List.getElem_map
def Px:=@List.getElem_mem
def ON:=@List.getElem_set
def ZB:=@List.isEmpty_iff
def Rj:=@List.length_cons
def Um:=@List.length_drop
def RW:=@List.length_take
def D2:=@List.map_fst_zip
def V7:=@List.mem_flatMap
def RF:=@List.mem_flatten
def Sf:=@List.not_mem_nil
def OT:=@List.prefix_refl
def QM:=@List.take_length
def JI:=@Option.bind_none
def Sw:=@Option.bind_some
def Ma:=@Option.getD_some
def NR:=@beq_self_eq_true
def Nv:=@Bool.eq_iff_iff
def Fz:=@Bool.or_eq_true
def N8:=@List.any_append
def SH:=@List.append_nil
def Jw:=@List.filter_map
def Ni:=@List.find?_cons
def YD:=@List.foldl_cons
def Qb:=@List.length_map
def YO:=@List.length_nil
def XO:=@List.length_set
def Yi:=@List.length_zip
def R6:=@List.map_append
def PE:=@List.mem_append
def Sq:=@List.mem_filter
def VP:=@List.nil_append
def U6:=@List.nodup_cons
def OI:=@List.of_mem_zip
def YH:=@List.range_succ
def Kk:=@List.sum_append
def Nu:=@List.take_left'
def Zr:=@Nat.min_eq_left
def WP:=@Nat.not_lt_zero
def YM:=@Option.map_some
def Qs:=@Option.some.inj
def Mh:=@beq_false_of_ne
def Ti:=@decide_eq_false
def Nc:=@Bool.and_false
def T2:=@List.mem_range
def Vr:=@List.nodup_nil
def FU:=@List.range_add
def AE:=@Nat.add_le_add
def KH:=@Nat.mul_le_mul
def T7:=@decide_eq_true
def Np:=@Bool.false_or
def G1:=@Bool.true_and
def Re:=@List.map_cons
def J3:=@List.map_drop
def NU:=@List.map_take
def Qa:=@List.mem_cons
def SO:=@List.sum_cons
def YQ:=@Nat.add_assoc
def TL:=@List.map_map
def N':=@List.map_set
def PI:=@List.mem_map
def TO:=@Nat.add_zero
def Yy:=@Nat.le_of_eq
def FW:=@Nat.le_of_lt
def PZ:=@Nat.le_trans
def Sk:=@Nat.lt_or_ge
def ZC:=@Nat.ne_of_lt
def N2:=@Nat.sub_self
def Rp:=@Nat.zero_add
def Uk:=@Nat.zero_mul
def ZI:=@getElem!_pos
def Uy:=@iff_of_false
def Yp:=@Int.le_refl
def TM:=@Nat.add_mul
def P6:=@Nat.le_refl
def YC:=@Nat.le_succ
def R4:=@Nat.mul_one
def YF:=@Nat.one_mul
def TD:=@Nat.zero_le
def MK:=@iff_of_true
def WY:=@beq_iff_eq
def Us:=@eq_of_beq
def MA:=@and_true
def Si:=@or_false
def P7:=@if_neg
def Pc:=@if_pos
abbrev Qg:=List UInt8
abbrev Lb:=Int×Qg×Int
def Pn:Nat->Type
 | 0=>Empty
 | d+1=>Lb×List (Pn d)
abbrev Pt:=(d:Nat)×Pn d
def Pt.lab:Pt->Lb
 | ⟨0,t⟩=>t.elim
 | ⟨_+1,t⟩=>t.1
def Pt.kind (p:Pt):Int:=p.lab.1
def Pt.name (p:Pt):Qg:=p.lab.2.1
def Pt.num (p:Pt):Int:=p.lab.2.2
def Pt.kids:Pt->List Pt
 | ⟨0,t⟩=>t.elim
 | ⟨d+1,t⟩=>t.2.map λu=>⟨d,u⟩
def WX:(d:Nat)->Pn d->Nat
 | 0,t=>t.elim
 | d+1,t=>1+(t.2.map (WX d)).sum
def Pt.sz (p:Pt):Nat:=WX p.1 p.2
def Q6 (l:List Pt):Nat:=(l.map Pt.sz).sum
theorem Pt.sz_eq:∀p:Pt,p.sz=1+Q6 p.kids
 | ⟨0,t⟩=>t.elim
 | ⟨d+1,t⟩=>by
  show 1+(t.2.map (WX d)).sum=1+((t.2.map λu=>(⟨d,u⟩:Pt)).map Pt.sz).sum;rw [TL]
  rfl
theorem Pt.sz_pos (p:Pt):0<p.sz:=by rw [p.sz_eq];omega
theorem ME (p:Pt)(l:List Pt):Q6 (p::l)=p.sz+Q6 l:=by simp [Q6]
theorem Lh (l k:List Pt):Q6 (l++k)=Q6 l+Q6 k:=by simp [Q6]
theorem WQ {p:Pt}:∀{l:List Pt},p∈l->p.sz<=Q6 l
 | a::r,h=>by
  rw [ME];rcases Qa.1 h with rfl | h
  ·omega
  have:=WQ h;omega
theorem Xs:∀l:List Pt,l.length<=Q6 l
 | []=>by simp
 | a::r=>by
  have:=Xs r;have:=a.sz_pos;rw [ME,Rj];omega
theorem Pt.kids_lt:∀{p q:Pt},q∈p.kids->q.1<p.1
 | ⟨0,t⟩,_,_=>t.elim
 | ⟨d+1,t⟩,q,h=>by
  obtain ⟨u,_,rfl⟩:=PI.1 h;exact Nat.lt_succ_self d
theorem Pt.depth_pos:∀p:Pt,0<p.1
 | ⟨0,t⟩=>t.elim
 | ⟨_+1,_⟩=>Nat.succ_pos _
def Pm (p:Pt):Bool:=p.kind==1 || p.kind==2
abbrev Pu:=List Qg×List Int
abbrev Kn:=List (Qg×Nat×Nat×Nat)
def Qt (i:Nat):Kn->Nat->List Qg->List Int->Option Kn
 | k,_,[],_=>some k
 | _,_,_::_,[]=>none
 | k,p,n::ns,x::xs=>if n=[]\/(∃e∈k,e.1=n)\/x<0\/8<x then none else Qt i (k++[(n,i,p,x.toNat)]) (p+1) ns xs
def Po:Nat->Kn->List Pu->Option Kn
 | _,k,[]=>some k
 | i,k,f::fs=>if f.1.length=0\/24<f.1.length\/f.2.length≠f.1.length then none else (Qt i k 0 f.1 f.2).bind λk'=>Po (i+1) k' fs
def look (k:Kn)(n:Qg):Option (Nat×Nat×Nat):=(k.find? λe=>e.1==n).map (·.2)
def O' (k:Kn)(n:Qg):Nat×Nat×Nat:=(look k n).getD (0,0,0)
abbrev Sp:=Nat×Pt
abbrev PM:=List Nat×Nat×List Sp
def Pq (n:Nat)(lines:List (Nat×List Pt)):List Sp:=lines.filterMap λl=>match l.2[n]? with
 | some p=>if Pm p then none else some (l.1,p)
 | none=>none
def QA (ai:List Nat)(aH:Nat)(lines:List (Nat×List Pt)):List PM:=
 (List.range aH).filterMap λn=>if (Pq n lines).isEmpty then none else some (ai,n,Pq n lines)
def RX (af:List Sp):List (Nat×List Pt):=af.map λs=>(s.1,s.2.kids)
def within (k:Kn)(af:List Sp)(con:Qg)(path:List Nat):List PM:=QA path (O' k con).2.2 (RX af)
def Q8 (k:Kn)(p:Pt):Bool:=
 if p.kind=3 then decide (-4611686018427387904<=p.num) && decide (p.num<=4611686018427387903)
 else if p.kind=4 then match look k p.name with
  | some c=>p.kids.length==c.2.2
  | none=>false
 else false
def together (k:Kn)(af:List Sp):Bool:=match af with
 | []=>true
 | f::_=>af.all λs=>s.2.kind==f.2.kind && Q8 k s.2 && (f.2.kind !=4 || (O' k s.2.name).1==(O' k f.2.name).1)
abbrev Cs:=Qg×Int
def PA (p:Pt):Cs:=if p.kind=4 then (p.name,0) else ([],p.num)
def Q1 (k:Kn)(a b:Cs):Bool:=decide ((O' k a.1).2.1<(O' k b.1).2.1) || ((O' k a.1).2.1==(O' k b.1).2.1 && decide (a.2<b.2))
def Rz (k:Kn)(c:Cs):List Cs->List Cs
 | []=> [c]
 | a::r=>if Q1 k c a then c::a::r else if Q1 k a c then a::Rz k c r else a::r
def Pg (k:Kn)(af:List Sp):List Cs:=af.foldr (λs l=>Rz k (PA s.2) l) []
def Pk (c:Cs)(s:Sp):Bool:=if c.1=[] then s.2.num==c.2 else s.2.name==c.1
def UA (k:Kn):Nat->List Sp->Bool
 | 0,_=>true
 | f+1,af=>together k af && (Pg k af).all λc=>(within k (af.filter (Pk c)) c.1 []).all λcol=>UA k f col.2.2
def Tr:Nat->Type
 | 0=>Unit
 | f+1=>(Int×Nat×List Nat)×List (Cs×Tr f)×List (Tr f)
def Qz:(f:Nat)->Tr f
 | 0=>()
 | _+1=>((0,0,[]),[],[])
def Rx (r:Nat)(c:PM):Bool:=c.2.2.any λs=>s.1==r
def Ss (k:Kn)(fs:List Pu)(cs:List Cs):Bool:=match cs with
 | []=>false
 | c::_=>c.1 !=[] && cs.length==(match fs[(O' k c.1).1]? with | some f=>f.1.length | none=>0)
def QE (rows:List Nat)(af:List Sp):List Nat:=rows.filter λr=> !af.any λs=>s.1==r
def PK (af:List Sp)(rows:List Nat):List Sp:=af.filter λs=>rows.contains s.1
def P9 {α β:Type}(step:α->Nat->β×Nat):List α->Nat->List β×Nat
 | [],n=>([],n)
 | a::r,n=>((step a n).1::(P9 step r (step a n).2).1,(P9 step r (step a n).2).2)
def Ps (k:Kn)(fs:List Pu):(f:Nat)->Nat->List PM->List Nat->Tr f×Nat
 | 0,n,_,_=>(Qz 0,n+1)
 | f+1,n,cols,rows=>
  if 5000<=n then (Qz (f+1),n+1) else match rows with
  | []=>(((1,0,[]),[],[]),n+1)
  | r::_=>match cols.findIdx? (Rx r) with
   | none=>(((2,r,[]),[],[]),n+1)
   | some at'=>match cols[at']? with
    | none=>(Qz (f+1),n+1)
    | some c=>
     let af:=PK c.2.2 rows
     let path:=c.1++[c.2.1]
     let cs:=Pg k af
     let a:=P9 (λx m=>Ps k fs f m (cols.take at'++within k (af.filter (Pk x)) x.1 path++cols.drop (at'+1)) (QE rows (af.filter λs=> !Pk x s))) cs (n+1)
     if Ss k fs cs then (((3,0,path),cs.zip a.1,[]),a.2)
     else
      let e:=Ps k fs f a.2 (cols.take at'++cols.drop (at'+1)) (QE rows af)
      (((3,0,path),cs.zip a.1,[e.1]),e.2)
def Pa:(f:Nat)->Tr f->Nat
 | 0,_=>1
 | f+1,t=>(t.2.2.map (Pa f)).foldl max ((t.2.1.map λc=>Pa f c.2).foldl max 0)+1
def QL:Nat->Pt->Bool
 | 0,_=>true
 | l+1,p=>p.kind==4 && p.kids.any (QL l)
def RU (rows:List (List Pt)):Bool:=rows.any λr=>r.any (QL 1000)
def Py:(f:Nat)->Tr f->List Nat
 | 0,_=> []
 | f+1,t=>(if t.1.1=2 then [t.1.2.1] else [])++(t.2.1.flatMap λc=>Py f c.2)++t.2.2.flatMap (Py f)
abbrev Qj:=List Nat×Lb×Nat
def Pr (k:Kn)(c:Cs):Lb×Nat:=if c.1=[] then ((3,[],c.2),0) else ((4,c.1,0),(O' k c.1).2.2)
def PJ (k:Kn)(con:Qg):List Cs->Nat->Nat
 | [],g=>g
 | c::r,g=>PJ k con r (if (con=[]/\c.2=(g:Int))\/(con≠[]/\(O' k c.1).2.1=g) then g+1 else g)
def R8 (k:Kn)(fs:List Pu)(cs:List Cs):Lb×Nat:=match cs with
 | []=>((0,[],0),0)
 | c::_=>if c.1=[] then Pr k ([],(PJ k [] cs 0:Nat)) else Pr k (match fs[(O' k c.1).1]? with
  | some f=>f.1.getD (PJ k c.1 cs 0) []
  | none=> [],0)
def Qx (k:Kn)(fs:List Pu):(f:Nat)->Tr f->Option (List Qj)
 | 0,_=>none
 | f+1,t=>if t.1.1=1 then some [] else
  match t.2.1.findSome? (λc=>(Qx k fs f c.2).map λy=>y++[(t.1.2.2,Pr k c.1)]) with
  | some y=>some y
  | none=>t.2.2.findSome? λe=>(Qx k fs f e).map λy=>y++[(t.1.2.2,R8 k fs (t.2.1.map (·.1)))]
abbrev Cv (D:Nat):=Bool×List Nat×List (Pn (D+1))
section
variable {c:Nat}
theorem Dv {α γ:Type}(f:α->Option γ)(P:γ->Bool):∀(l:List α),
  (l.findIdx? (λa=>(f a).any P)=none->(l.filterMap f).findIdx? P=none)/\
  ∀i,l.findIdx? (λa=>(f a).any P)=some i->∃q y,(l.filterMap f).findIdx? P=some q/\(l[i]?).bind f=some y/\(l.filterMap f)[q]? =some y/\(l.take i).filterMap f=(l.filterMap f).take q/\(l.drop (i+1)).filterMap f=(l.filterMap f).drop (q+1)
 | []=>⟨λ_=>rfl,λi h=>by simp at h⟩
 | a::l=>by
  obtain ⟨Bs,ih2⟩:=Dv f P l;cases hf:f a with
  | none=>
   have e:(a::l).filterMap f=l.filterMap f:=NI hf;rw [e];have e2:(a::l).findIdx? (λa=>(f a).any P)=(l.findIdx? (λa=>(f a).any P)).map (· +1):=by
    rw [LI];simp [hf]
   rw [e2];refine ⟨λh=>Bs (by simpa using h),λi h=> ?_⟩;rw [VZ] at h;obtain ⟨j,h1,rfl⟩:=h;obtain ⟨q,y,g1,g2,g3,g4,g5⟩:=ih2 j h1;refine ⟨q,y,g1,by simpa using g2,g3,?_,by simpa using g5⟩;rw [JJ,NI hf];exact g4
  | some y=>
   have e:(a::l).filterMap f=y::l.filterMap f:=NK hf;rw [e];have e2:(a::l).findIdx? (λa=>(f a).any P)=if P y then some 0 else (l.findIdx? (λa=>(f a).any P)).map (· +1):=by
    rw [LI];simp [hf]
   rw [e2,LI];by_cases hP:P y=true
   ·rw [Pc hP,Pc hP];refine ⟨λh=>by simp at h,λi h=> ?_⟩;obtain rfl:=Qs h;exact ⟨0,y,rfl,by simpa using hf,rfl,rfl,rfl⟩
   rw [P7 hP,P7 hP];refine ⟨λh=>by rw [Bs (by simpa using h)];rfl,λi h=> ?_⟩;rw [VZ] at h;obtain ⟨j,h1,rfl⟩:=h;obtain ⟨q,z,g1,g2,g3,g4,g5⟩:=ih2 j h1;refine ⟨q+1,z,by rw [g1];rfl,by simpa using g2,by simpa using g3,?_,by simpa using g5⟩;rw [JJ,NK hf,g4]
   rfl
theorem uf1 {α β γ:Type}(f:α->Option γ)(g:β->Option γ)(P:γ->Bool)(l:List α)(m:List β)(h:l.filterMap f=m.filterMap g):
  (m.findIdx? (λb=>(g b).any P)=none->l.findIdx? (λa=>(f a).any P)=none)/\
  ∀j,m.findIdx? (λb=>(g b).any P)=some j->∃i y,l.findIdx? (λa=>(f a).any P)=some i/\(l[i]?).bind f=some y/\(m[j]?).bind g=some y/\(l.take i).filterMap f=(m.take j).filterMap g/\(l.drop (i+1)).filterMap f=(m.drop (j+1)).filterMap g:=by
 obtain ⟨a1,a2⟩:=Dv f P l;obtain ⟨b1,b2⟩:=Dv g P m;refine ⟨λh0=> ?_,λj hj=> ?_⟩
 ·cases hi:l.findIdx? (λa=>(f a).any P) with
  | none=>rfl
  | some i=>
   obtain ⟨q,y,g1,_⟩:=a2 i hi;rw [h,b1 h0] at g1;cases g1
 obtain ⟨q,y,g1,g2,g3,g4,g5⟩:=b2 j hj;cases hi:l.findIdx? (λa=>(f a).any P) with
 | none=>
  rw [<-h,a1 hi] at g1;cases g1
 | some i=>
  obtain ⟨q',y',k1,k2,k3,k4,k5⟩:=a2 i hi;rw [h,g1] at k1;obtain rfl:=Qs k1;rw [h,g3] at k3;obtain rfl:=Qs k3;exact ⟨i,y,rfl,k2,g2,by rw [k4,g4,h],by rw [k5,g5,h]⟩
def Qd {α:Type}(l:List α)(c:Nat)(xs:List α):List α:=l.take c++xs++l.drop (c+1)
theorem Za {α:Type}{l:List α}(xs:List α)(h:c<l.length):(Qd l c xs).length=l.length-1+xs.length:=by
 simp [Qd];omega
theorem E4 {α:Type}{l:List α}(xs:List α)(h:c<l.length){j:Nat}(hj:j<c):(Qd l c xs)[j]? =l[j]? :=by
 unfold Qd;rw [T5,Xo (by simp;omega),List.getElem?_take_of_lt hj]
theorem MO {α:Type}{l:List α}(xs:List α)(h:c<l.length){j:Nat}(hj:j<xs.length):(Qd l c xs)[c+j]? =xs[j]? :=by
 unfold Qd;rw [T5,WS (by simp;omega),RW,Zr (by omega),Xo (by omega),M']
theorem JA {α:Type}{l:List α}(xs:List α)(h:c<l.length)(j:Nat):(Qd l c xs)[c+xs.length+j]? =l[c+1+j]? :=by
 unfold Qd;rw [WS (by simp;omega),QP,RW,Zr (by omega),M',List.getElem?_drop]
theorem ug1 (a b c:Nat):List.range (a+b+c)=List.range a++(List.range b).map (a+ ·)++(List.range c).map (a+b+ ·):=by
 rw [FU,FU]
theorem uh1 (c n:Nat):(List.range n).drop c=(List.range (n-c)).map (c+ ·):=by
 rcases Nat.le_total c n with h | h
 ·obtain ⟨d,rfl⟩:=Nat.le.dest h;rw [FU,List.drop_left' (by simp),M']
 rw [Nat.sub_eq_zero_of_le h,Yb (by simpa using h)]
 rfl
end
section
variable {aI nums':List Nat}{c j:Nat}{ak:List (List Nat)}
abbrev Rw:=Nat×List Pt
def Ta:Pt:=⟨1,((1,[],0),[])⟩
theorem uj1:Pm Ta=true:=by decide
def QB (aI:List Nat)(c:PM):Option (List Nat×List Sp):=if (PK c.2.2 aI).isEmpty then none else some (c.1++[c.2.1],PK c.2.2 aI)
def Xu (aI:List Nat)(x:List Nat×List Sp):Option (List Nat×List Sp):=if (PK x.2 aI).isEmpty then none else some (x.1,PK x.2 aI)
def RC (R:List Rw)(ak:List (List Nat))(j:Nat):Option (List Nat×List Sp):=if (Pq j R).isEmpty then none else some (ak.getD j [],Pq j R)
structure Mch (cols:List PM)(aI:List Nat)(R:List Rw)(ak:List (List Nat)):Prop where
 num:aI=R.map (·.1)
 nd:(R.map (·.1)).Nodup
 wid:∀r∈R,r.2.length=ak.length
 cols:cols.filterMap (QB aI)=(List.range ak.length).filterMap (RC R ak)
theorem L6 {α:Type}:∀{R:List (Nat×α)},(R.map (·.1)).Nodup->∀{r s:Nat×α},r∈R->s∈R->r.1=s.1->r=s
 | a::R,h,r,s,hr,hs,e=>by
  rw [Re,U6] at h;rcases Qa.1 hr with e1 | tr
  ·rcases Qa.1 hs with e2 | jK
   ·rw [e1,e2]
   exact absurd (PI.2 ⟨s,jK,e.symm.trans (by rw [e1])⟩) h.1
  rcases Qa.1 hs with e2 | jK
  ·exact absurd (PI.2 ⟨r,tr,e.trans (by rw [e2])⟩) h.1
  exact L6 h.2 tr jK e
theorem Vb {α β:Type}{f g:α->Option β}:∀{l:List α},(∀x∈l,f x=g x)->l.filterMap f=l.filterMap g
 | [],_=>rfl
 | a::l,h=>by
  rw [Ui,Ui,h a (by simp),Vb λx hx=>h x (by simp [hx])]
def Ry (j:Nat)(r:Rw):Option Sp:=match r.2[j]? with
 | some p=>if Pm p then none else some (r.1,p)
 | none=>none
theorem TQ (j:Nat)(R:List Rw):Pq j R=R.filterMap (Ry j):=rfl
theorem Uo {r:Rw}{s:Sp}:Ry j r=some s↔r.1=s.1/\r.2[j]? =some s.2/\Pm s.2=false:=by
 unfold Ry;cases h:r.2[j]? with
 | none=>simp
 | some p=>
  by_cases hw:Pm p=true
  ·simp only [hw,if_true];constructor
   ·intro h;cases h
   rintro ⟨_,h2,h3⟩;rw [<-Qs h2,hw] at h3;cases h3
  simp only [hw];constructor
  ·intro h;have:=Qs h;subst this;exact ⟨rfl,rfl,by simpa using hw⟩
  rintro ⟨h1,h2,_⟩;rw [Qs h2,h1]
  rfl
theorem nw0 {R:List Rw}(hn:(R.map (·.1)).Nodup){r:Rw}(hr:r∈R)(j:Nat)(P:Pt->Bool):(Pq j R).any (λs=>s.1==r.1 && P s.2)=true↔∃p,r.2[j]? =some p/\Pm p=false/\P p=true:=by
 rw [UG,TQ];constructor
 ·rintro ⟨s,hs,h⟩;obtain ⟨q,hq,e⟩:=SE.1 hs;obtain ⟨e1,e2,e3⟩:=Uo.1 e;rw [Tj,WY] at h;have:=L6 hn hq hr (e1.trans h.1);subst this;exact ⟨s.2,e2,e3,h.2⟩
 rintro ⟨p,h1,h2,h3⟩;exact ⟨(r.1,p),SE.2 ⟨r,hr,Uo.2 ⟨rfl,h1,h2⟩⟩,by simp [h3]⟩
theorem Fd (h:∀x∈nums',x∈aI)(l:List Sp):PK (PK l aI) nums'=PK l nums':=by
 unfold PK;rw [List.filter_filter];refine NA λs _=> ?_;cases h1:nums'.contains s.1 with
 | false=>rfl
 | true=>
  have:aI.contains s.1=true:=Zb.2 (h _ (Zb.1 h1));rw [this]
  rfl
theorem Xz (h:∀x∈nums',x∈aI)(c:PM):QB nums' c=(QB aI c).bind (Xu nums'):=by
 unfold QB;by_cases he:(PK c.2.2 aI).isEmpty=true
 ·rw [Pc he];have:PK c.2.2 nums'=[]:=by
   rw [<-Fd h,ZB.1 he]
   rfl
  rw [this]
  rfl
 rw [P7 he,Sw,Xu];dsimp only;rw [Fd h]
theorem FE (h:∀x∈nums',x∈aI)(l:List PM):l.filterMap (QB nums')=(l.filterMap (QB aI)).filterMap (Xu nums'):=by
 rw [WR];exact Vb λc _=>Xz h c
def Pw (sel:Rw->Option (List Pt))(c:Nat)(R:List Rw):List Rw:=R.filterMap λr=>(sel r).map λins=>(r.1,Qd r.2 c ins)
theorem MG {sel:Rw->Option (List Pt)}{R:List Rw}:(Pw sel c R).map (·.1)=R.filterMap λr=>(sel r).map λ_=>r.1:=by
 unfold Pw;rw [List.map_filterMap];refine Vb λr _=> ?_;cases sel r<;>rfl
theorem Xt {sel:Rw->Option (List Pt)}{R:List Rw}(hn:(R.map (·.1)).Nodup){r:Rw}(hr:r∈R):r.1∈(Pw sel c R).map (·.1)↔(sel r).isSome=true:=by
 rw [MG,SE];constructor
 ·rintro ⟨q,hq,e⟩;rw [VZ] at e;obtain ⟨ins,e1,e2⟩:=e;have:=L6 hn hq hr e2;subst this;rw [e1]
  rfl
 intro h;obtain ⟨ins,e⟩:=Option.isSome_iff_exists.1 h;exact ⟨r,hr,by rw [e];rfl⟩
theorem nz0 {sel:Rw->Option (List Pt)}{R:List Rw}:∀x∈(Pw sel c R).map (·.1),x∈R.map (·.1):=by
 intro x hx;rw [MG,SE] at hx;obtain ⟨r,hr,e⟩:=hx;rw [VZ] at e;obtain ⟨ins,_,e2⟩:=e;exact PI.2 ⟨r,hr,e2⟩
theorem L1 {sel:Rw->Option (List Pt)}{c:Nat}:∀{R:List Rw},(R.map (·.1)).Nodup->((Pw sel c R).map (·.1)).Nodup
 | [],_=>Vr
 | a::R,h=>by
  rw [Re,U6] at h;have ih:=L1 (sel:=sel) (c:=c) h.2;cases e:sel a with
  | none=>
   have:Pw sel c (a::R)=Pw sel c R:=by
    unfold Pw;rw [NI (by rw [e];rfl)]
   rw [this];exact ih
  | some ins=>
   have:Pw sel c (a::R)=(a.1,Qd a.2 c ins)::Pw sel c R:=by
    unfold Pw;rw [NK (by rw [e];rfl)]
   rw [this,Re,U6];exact ⟨λhm=>h.1 (nz0 _ hm),ih⟩
theorem Ou {sel:Rw->Option (List Pt)}{R:List Rw}(hn:(R.map (·.1)).Nodup){j j':Nat}(hj:∀r∈R,∀ins,sel r=some ins->(Qd r.2 c ins)[j']? =r.2[j]?):Pq j' (Pw sel c R)=PK (Pq j R) ((Pw sel c R).map (·.1)):=by
 have bh:=λr hr=>Xt (sel:=sel) (c:=c) hn (r:=r) hr;generalize hN:(Pw sel c R).map (·.1)=N at bh⊢;rw [TQ,TQ];unfold PK Pw;rw [WR,<-List.filterMap_eq_filter,WR];refine Vb λr hr=> ?_;cases e:sel r with
 | none=>
  have h1:r.1∉N:=λh=>by
   have:=(bh r hr).1 h;rw [e] at this;cases this
  cases es:Ry j r with
  | none=>rfl
  | some s=>
   have:=(Uo.1 es).1;simp only [Option.map_none,JI,Sw];rw [Option.guard,P7];rw [<-this];simpa using h1
 | some ins=>
  have h1:r.1∈N:=(bh r hr).2 (by rw [e];rfl);have h2:Ry j' (r.1,Qd r.2 c ins)=Ry j r:=by
   unfold Ry;dsimp only;rw [hj r hr ins e]
  simp only [YM,Sw];rw [h2];cases es:Ry j r with
  | none=>rfl
  | some s=>
   have:=(Uo.1 es).1;simp only [Sw];rw [Option.guard,Pc];rw [<-this];simpa using h1
theorem Lu {R R':List Rw}{yK:List (List Nat)}{j':Nat}(h:Pq j' R'=PK (Pq j R) nums')(ha:yK.getD j' []=ak.getD j []):RC R' yK j'=(RC R ak j).bind (Xu nums'):=by
 unfold RC;rw [h,ha];by_cases he:(Pq j R).isEmpty=true
 ·rw [Pc he,ZB.1 he]
  rfl
 rw [P7 he]
 rfl
theorem Lp {α:Type}{l m:List α}{i:Nat}{d:α}(h:l[i]? =m[j]?):l.getD i d=m.getD j d:=by
 rw [UU,UU,h]
theorem Mch.sel {cols:List PM}{R:List Rw}(h:Mch cols aI R ak){c ax:Nat}(hc:c<ak.length){sel:Rw->Option (List Pt)}{many:Nat}(hm:∀r∈R,∀ins,sel r=some ins->ins.length=many){new:List (List Nat)}(nM:new.length=many){nums':List Nat}(kX:nums'=(Pw sel c R).map (·.1)){mids:List PM}
  (bM:(cols.take ax).filterMap (QB aI)=((List.range ak.length).take c).filterMap (RC R ak)) (az4:(cols.drop (ax+1)).filterMap (QB aI)=((List.range ak.length).drop (c+1)).filterMap (RC R ak))
  (nN:mids.filterMap (QB nums')=(List.range many).filterMap λi=>RC (Pw sel c R) (Qd ak c new) (c+i)):Mch (cols.take ax++mids++cols.drop (ax+1)) nums' (Pw sel c R) (Qd ak c new):=by
 have bN:∀x∈nums',x∈aI:=λx hx=>by rw [h.num];rw [kX] at hx;exact nz0 x hx
 have aA:(Qd ak c new).length=c+many+(ak.length-(c+1)):=by rw [Za _ hc];omega
 refine ⟨kX,L1 h.nd,λr hr=> ?_,?_⟩
 ·unfold Pw at hr;obtain ⟨q,hq,e⟩:=SE.1 hr;rw [VZ] at e;obtain ⟨ins,e1,rfl⟩:=e;have hl:=h.wid q hq;dsimp only;rw [Za _ (by omega),Za _ hc,hm q hq ins e1,hl,nM]
 have hw:∀r∈R,∀ins,sel r=some ins->ins.length=many/\c<r.2.length:=λr hr ins e=>⟨hm r hr ins e,by rw [h.wid r hr];exact hc⟩;rw [WL,WL,FE bN,bM,FE bN (cols.drop _),az4,nN,aA,ug1,WL,WL,O0,O0];have e1:(List.range ak.length).take c=List.range c:=by rw [List.take_range,Zr (by omega)]
 rw [e1,uh1,WR,O0,WR]
 congr 1
 ·congr 1
  refine Vb λj hj=> ?_;have hj:=T2.1 hj;rw [kX];exact (Lu (Ou h.nd λr hr ins e=>E4 _ (hw r hr ins e).2 hj) (Lp (E4 _ hc hj))).symm
 refine Vb λj _=> ?_;rw [kX];refine (Lu (j':=c+many+j) (j:=c+1+j) (Ou h.nd λr hr ins e=> ?_) (Lp ?_)).symm
 ·rw [<-(hw r hr ins e).1];exact JA _ (hw r hr ins e).2 j
 rw [<-nM];exact JA _ hc j
end
section
variable {R:List Rw}{k:Kn}{c:Nat}{aI:List Nat}
def TU (k:Kn)(c:Nat)(x:Cs)(r:Rw):Option (List Pt):=match r.2[c]? with
 | none=>none
 | some p=>if Pm p then some (List.replicate (O' k x.1).2.2 Ta) else if Pk x (r.1,p) then some (if x.1=[] then [] else p.kids) else none
def TH (c:Nat)(r:Rw):Option (List Pt):=match r.2[c]? with
 | none=>none
 | some p=>if Pm p then some [] else none
theorem Kt {sel:Rw->Option (List Pt)}(q:Nat->Bool):∀(R:List Rw),(∀r∈R,q r.1=(sel r).isSome)->(R.map (·.1)).filter q=R.filterMap λr=>(sel r).map λ_=>r.1
 | [],_=>rfl
 | a::R,h=>by
  have h1:=h a (by simp);have ih:=Kt q R λr hr=>h r (by simp [hr]);cases e:sel a with
  | none=>
   rw [e] at h1;rw [Re,X1 (by rw [h1];simp),NI (by rw [e];rfl),ih]
  | some ins=>
   rw [e] at h1;rw [Re,X0 (by rw [h1];rfl),NK (by rw [e];rfl),ih]
theorem JT (hn:(R.map (·.1)).Nodup){c:Nat}(hw:∀r∈R,c<r.2.length)(P:Pt->Bool){sel:Rw->Option (List Pt)}(hs:∀r∈R,∀p,r.2[c]? =some p->(sel r).isSome=(Pm p || !P p)):QE (R.map (·.1)) ((Pq c R).filter λs=>P s.2)=(Pw sel c R).map (·.1):=by
 rw [MG];unfold QE;refine Kt _ R λr hr=> ?_;have hp:r.2[c]? =some (r.2[c]'(hw r hr)):=PR _;rw [hs r hr _ hp,List.any_filter];have h1:=nw0 hn hr c P;have e:((Pq c R).any λs=>P s.2 && s.1==r.1)=(Pq c R).any λs=>s.1==r.1 && P s.2:=by
  congr 1
  funext s
  exact Bool.and_comm _ _
 rw [e];generalize hA:((Pq c R).any λs=>s.1==r.1 && P s.2)=A at h1;generalize (r.2[c]'(hw r hr))=p at hp⊢;cases A with
 | true=>
  obtain ⟨q,q1,q2,q3⟩:=h1.1 rfl;rw [hp] at q1;obtain rfl:=Qs q1;rw [q2,q3]
  rfl
 | false=>
  cases hwp:Pm p with
  | true=>rfl
  | false=>
   cases hP:P p with
   | false=>rfl
   | true=>cases h1.2 ⟨p,hp,hwp,hP⟩
theorem Xp (x:Cs)(s:Sp)(n:Nat):Pk x s=Pk x (n,s.2):=rfl
theorem pe0 (hn:(R.map (·.1)).Nodup){c:Nat}(hw:∀r∈R,c<r.2.length)(x:Cs):QE (R.map (·.1)) ((Pq c R).filter λs=> !Pk x s)=(Pw (TU k c x) c R).map (·.1):=by
 refine JT hn hw (λp=> !Pk x (0,p)) λr hr p hp=> ?_;unfold TU;rw [hp];dsimp only;cases hwp:Pm p with
 | true=>rfl
 | false=>
  rw [P7 (by simp),<-Xp x (r.1,p) 0];cases Pk x (r.1,p)<;>rfl
theorem uk1 (hn:(R.map (·.1)).Nodup){c:Nat}(hw:∀r∈R,c<r.2.length):QE (R.map (·.1)) (Pq c R)=(Pw (TH c) c R).map (·.1):=by
 have:=JT hn hw (λ_=>true) (sel:=TH c) λr hr p hp=>by
  unfold TH;rw [hp];dsimp only;cases Pm p<;>rfl
 rw [<-this]
 congr 1
 exact (Oo.2 λ_ _=>rfl).symm
theorem yw {x:Cs}(hk:∀r∈R,∀p,r.2[c]? =some p->Pm p=false->Pk x (r.1,p)=true->x.1≠[]->p.kids.length=(O' k x.1).2.2)(h0:x.1=[]->(O' k x.1).2.2=0):∀r∈R,∀ins,TU k c x r=some ins->ins.length=(O' k x.1).2.2:=by
 intro r hr ins h;unfold TU at h;cases hp:r.2[c]? with
 | none=>rw [hp] at h;cases h
 | some p=>
  rw [hp] at h;dsimp only at h;cases hwp:Pm p with
  | true=>
   rw [hwp,Pc rfl] at h;rw [<-Qs h,Tq]
  | false=>
   rw [hwp,P7 (by simp)] at h;cases hi:Pk x (r.1,p) with
   | false=>rw [hi,P7 (by simp)] at h;cases h
   | true=>
    rw [hi,Pc rfl] at h;rw [<-Qs h];by_cases hx:x.1=[]
    ·rw [Pc hx,h0 hx]
     rfl
    rw [P7 hx];exact hk r hr p hp hwp hi hx
theorem JW (hw:∀r∈R,c<r.2.length){x:Cs}(hk:∀r∈R,∀p,r.2[c]? =some p->Pm p=false->Pk x (r.1,p)=true->x.1≠[]->p.kids.length=(O' k x.1).2.2)(h0:x.1=[]->(O' k x.1).2.2=0){i:Nat}(hi:i<(O' k x.1).2.2):Pq (c+i) (Pw (TU k c x) c R)=Pq i (RX ((Pq c R).filter (Pk x))):=by
 have hx:x.1≠[]:=λe=>by rw [h0 e] at hi;omega
 rw [TQ,TQ,TQ];unfold Pw RX;rw [WR,<-List.filterMap_eq_filter,WR,O0,WR];refine Vb λr hr=> ?_;have hlt:=hw r hr;have hp:r.2[c]? =some r.2[c]:=PR _;generalize r.2[c]=p at hp;have e1:TU k c x r=if Pm p then some (List.replicate (O' k x.1).2.2 Ta) else if Pk x (r.1,p) then some (if x.1=[] then [] else p.kids) else none:=by
  unfold TU;rw [hp]
 have e2:Ry c r=if Pm p then none else some (r.1,p):=by
  unfold Ry;rw [hp]
 rw [e1,e2];cases hwp:Pm p with
 | true=>
  simp only [if_true,YM,Sw,JI];unfold Ry;dsimp only;rw [MO _ hlt (by simpa using hi),List.getElem?_replicate,Pc hi];dsimp only;rw [uj1]
  rfl
 | false=>
  simp only [Bool.false_eq_true,if_false,Sw];cases hio:Pk x (r.1,p) with
  | false=>
   simp only [Option.guard,hio]
   rfl
  | true=>
   simp only [Option.guard,hio,if_true,YM,Sw,P7 hx];have hl:=hk r hr p hp hwp hio hx;unfold Ry;dsimp only [Function.comp];have:=MO (l:=r.2) (c:=c) p.kids hlt (j:=i) (by omega);rw [this]
theorem Xh {j:Nat}:PK (Pq j R) (R.map (·.1))=Pq j R:=by
 unfold PK;refine Oo.2 λs hs=> ?_;rw [TQ] at hs;obtain ⟨r,hr,e⟩:=SE.1 hs;exact Zb.2 (PI.2 ⟨r,hr,(Uo.1 e).1⟩)
theorem VE (hw:∀r∈R,c<r.2.length){x:Cs}(hk:∀r∈R,∀p,r.2[c]? =some p->Pm p=false->Pk x (r.1,p)=true->x.1≠[]->p.kids.length=(O' k x.1).2.2)(h0:x.1=[]->(O' k x.1).2.2=0){ak:List (List Nat)}(hc:c<ak.length)(path:List Nat):(within k ((Pq c R).filter (Pk x)) x.1 path).filterMap (QB ((Pw (TU k c x) c R).map (·.1)))=(List.range (O' k x.1).2.2).filterMap λi=>RC (Pw (TU k c x) c R) (Qd ak c ((List.range (O' k x.1).2.2).map λi=>path++[i])) (c+i):=by
 unfold within QA;rw [WR];refine Vb λi hi=> ?_;have hi:=T2.1 hi;have h1:=JW hw hk h0 hi;have h2:=Xh (R:=Pw (TU k c x) c R) (j:=c+i);rw [h1] at h2;have h3:(Qd ak c ((List.range (O' k x.1).2.2).map λi=>path++[i])).getD (c+i) []=path++[i]:=by
  rw [UU,MO _ hc (by simpa using hi)];simp [hi]
 unfold RC;rw [h1,h3];by_cases he:(Pq i (RX ((Pq c R).filter (Pk x)))).isEmpty=true
 ·rw [Pc he,Pc he]
  rfl
 rw [P7 he,P7 he,Sw,QB];dsimp only;rw [h2,P7 he]
theorem X9 {r:Nat}(hr:r∈aI)(c:PM):(QB aI c).any (λy=>y.2.any λs=>s.1==r)=Rx r c:=by
 have e:(PK c.2.2 aI).any (λs=>s.1==r)=Rx r c:=by
  unfold PK Rx;rw [List.any_filter]
  congr 1
  funext s
  by_cases h:s.1=r
  ·rw [h];simp [hr]
  rw [show (s.1==r)=false by simpa using h,Nc]
 unfold QB;by_cases he:(PK c.2.2 aI).isEmpty=true
 ·rw [Pc he];rw [ZB.1 he] at e;exact e
 rw [P7 he];exact e
theorem Kh (hn:(R.map (·.1)).Nodup){r:Rw}(hr:r∈R)(ak:List (List Nat))(j:Nat):(RC R ak j).any (λy=>y.2.any λs=>s.1==r.1)=true↔∃p,r.2[j]? =some p/\Pm p=false:=by
 have h:=nw0 hn hr j (λ_=>true);simp only [Bool.and_true,MA] at h;rw [<-h];unfold RC;by_cases he:(Pq j R).isEmpty=true
 ·rw [Pc he,ZB.1 he]
  rfl
 rw [P7 he]
 rfl
theorem Mch.first {cols:List PM}{ak:List (List Nat)}(h:Mch cols aI R ak){r:Rw}(hr:r∈R):
  (r.2.findIdx? (λp=> !Pm p)=none->cols.findIdx? (Rx r.1)=none)/\
  ∀c,r.2.findIdx? (λp=> !Pm p)=some c->c<ak.length/\∃ax,cols.findIdx? (Rx r.1)=some ax/\∃hx:ax<cols.length,cols[ax].1++[cols[ax].2.1]=ak.getD c []/\PK cols[ax].2.2 aI=Pq c R/\
   (cols.take ax).filterMap (QB aI)=((List.range ak.length).take c).filterMap (RC R ak)/\(cols.drop (ax+1)).filterMap (QB aI)=((List.range ak.length).drop (c+1)).filterMap (RC R ak):=by
 have mH:r.1∈aI:=by rw [h.num];exact PI.2 ⟨r,hr,rfl⟩
 have hb:=uf1 (QB aI) (RC R ak) (λy=>y.2.any λs=>s.1==r.1) cols (List.range ak.length) h.cols;have e1:(λa=>(QB aI a).any λy=>y.2.any λs=>s.1==r.1)=Rx r.1:=funext λc=>X9 mH c;rw [e1] at hb;have at6:=h.wid r hr;refine ⟨λh0=>hb.1 ?_,λc hc=> ?_⟩
 ·rw [YY] at h0⊢;intro j hj;cases hA:(RC R ak j).any λy=>y.2.any λs=>s.1==r.1 with
  | false=>rfl
  | true=>
   obtain ⟨p,h1,h2⟩:=(Kh h.nd hr ak j).1 hA;have:=h0 p (Tf h1);rw [h2] at this;cases this
 rw [SP] at hc;obtain ⟨hlt,hp,bM⟩:=hc;have di:c<ak.length:=by omega
 have hf:(List.range ak.length).findIdx? (λb=>(RC R ak b).any λy=>y.2.any λs=>s.1==r.1)=some c:=by
  rw [SP];refine ⟨by simpa using di,?_,λj hj=> ?_⟩
  ·rw [X2];exact (Kh h.nd hr ak c).2 ⟨r.2[c],PR _,by simpa using hp⟩
  rw [X2];intro hA;obtain ⟨p,h1,h2⟩:=(Kh h.nd hr ak j).1 hA;have:=bM j hj;rw [PR (by omega)] at h1;rw [Qs h1,h2] at this;exact this rfl
 obtain ⟨ax,y,g1,g2,g3,g4,g5⟩:=hb.2 c hf;have yM:ax<cols.length:=(SP.1 g1).1;refine ⟨di,ax,g1,yM,?_,?_,g4,g5⟩
 all_goals
  rw [PR yM,Sw] at g2;rw [List.getElem?_range di,Sw] at g3;unfold QB at g2;unfold RC at g3;by_cases he:(PK cols[ax].2.2 aI).isEmpty=true
  ·rw [Pc he] at g2;cases g2
  rw [P7 he] at g2;by_cases cJ:(Pq c R).isEmpty=true
  ·rw [Pc cJ] at g3;cases g3
  rw [P7 cJ] at g3;have:=(Qs g2).trans (Qs g3).symm
  first
   | exact congrArg Prod.fst this
   | exact congrArg Prod.snd this
end
