/- What Compile answers decides as the rows do, and tells the truth on what they cover (plain). Where: the family of a name, and its place in it. fits and fitsAll: a pattern, a row of them, against values. suits: patterns that are right, rows of copies of them. -/
import Derived.Test.YtpdmkhnonbbhnaaMqx
import Derived.Deep.RegionHeld3
import Derived.Deep.AppendLies
namespace Go.Proofs.Ytpdmkhnonbbhnaa

theorem way_facts {N : Nat} : ∀ {way : List Stp}, WayOk N way → ∀ s ∈ way, s.1 ≠ [] ∧ s.1.length ≤ way.length ∧ Reach N way s.1 ∧ labAt way s.1 = s.2
  | x :: r, ⟨h1, h2, h3, h4, h5⟩, s, hs => by
    rcases List.mem_cons.1 hs with rfl | hs
    · refine ⟨h2, h3, h4.more fun y hy => List.mem_cons_of_mem _ hy, ?_⟩
      unfold labAt
      rw [List.find?_cons]
      simp
    · obtain ⟨q1, q2, q3, q4⟩ := way_facts h1 s hs
      refine ⟨q1, by rw [List.length_cons]; omega, q3.more fun y hy => List.mem_cons_of_mem _ hy, ?_⟩
      unfold labAt at q4 ⊢
      rw [List.find?_cons]
      have : (x.1 == s.1) = false := by
        cases h : x.1 == s.1 with
        | false => rfl
        | true => exact absurd (eq_of_beq h).symm (h5 s hs)
      rw [this]
      exact q4
theorem build_lab (way : List Stp) (d : Nat) (p : List Nat) : Pt.lab ⟨d + 1, buildP way d p⟩ = (labAt way p).1 := by cases d <;> rfl
theorem build_kids (way : List Stp) (d : Nat) (p : List Nat) : Pt.kids ⟨d + 1 + 1, buildP way (d + 1) p⟩ = (List.range (labAt way p).2).map fun i => (⟨d + 1, buildP way d (p ++ [i])⟩ : Pt) := by
  show List.map _ (List.map _ _) = _
  rw [List.map_map]
  rfl
theorem build_at {N : Nat} {way : List Stp} (hw : WayOk N way) (hpat : ∀ s ∈ way, s.2.1.1 = 4 ∨ (s.2.1.1 = 3 ∧ s.2.2 = 0)) {s : Stp} (hs : s ∈ way) : ∀ (q : List Nat) (d : Nat) (p : List Nat) (x : Pt), p ≠ [] → fit ⟨d + 1, buildP way d p⟩ x = true → q.length ≤ d → s.1 = p ++ q → ∃ y, valK x q = some y ∧ LabFits s.2 y
  | [], d, p, x, _, hf, _, e => by
    rw [List.append_nil] at e
    have hl := (way_facts hw s hs).2.2.2
    rw [e] at hl
    refine ⟨x, rfl, fun h3 => ?_, fun h4 => ?_⟩
    · have hk : Pt.kind ⟨d + 1, buildP way d p⟩ = 3 := by unfold Pt.kind; rw [build_lab, hl]; exact h3
      have hn : Pt.num ⟨d + 1, buildP way d p⟩ = s.2.1.2.2 := by unfold Pt.num; rw [build_lab, hl]
      rw [fit_eq, if_neg (by omega), if_pos hk, hn] at hf
      exact of_decide_eq_true hf
    · have hk : Pt.kind ⟨d + 1, buildP way d p⟩ = 4 := by unfold Pt.kind; rw [build_lab, hl]; exact h4
      have hn : Pt.name ⟨d + 1, buildP way d p⟩ = s.2.1.2.1 := by unfold Pt.name; rw [build_lab, hl]
      rw [fit_eq, if_neg (by omega), if_neg (by omega), hn, Bool.and_eq_true] at hf
      have := of_decide_eq_true hf.1
      exact ⟨this.1, this.2.1⟩
  | i :: q, 0, _, _, _, _, hq, _ => by simp at hq
  | i :: q, d + 1, p, x, hp, hf, hq, e => by
    obtain ⟨_, _, hr, _⟩ := way_facts hw s hs
    have hpl : p.length < s.1.length := by rw [e]; simp
    have hp0 : 0 < p.length := List.length_pos_iff.2 hp
    have hsi : s.1[p.length] = i := by simp [e]
    rcases hr p.length hpl with ⟨h0, _⟩ | ⟨_, y, hy, h1, h2⟩
    · omega
    · have htk : s.1.take p.length = p := by rw [e]; simp
      rw [htk] at h1
      rw [hsi] at h2
      have hl := (way_facts hw y hy).2.2.2
      rw [h1] at hl
      have hk4 : y.2.1.1 = 4 := by
        rcases hpat y hy with h | ⟨_, h⟩
        · exact h
        · omega
      have hk : Pt.kind ⟨d + 1 + 1, buildP way (d + 1) p⟩ = 4 := by unfold Pt.kind; rw [build_lab, hl]; exact hk4
      have hkd := build_kids way d p
      rw [fit_eq, if_neg (by omega), if_neg (by omega), Bool.and_eq_true, hkd, hl] at hf
      have hx := of_decide_eq_true hf.1
      rw [List.length_map, List.length_range] at hx
      have hix : i < x.kids.length := by omega
      have hfi := (fitAll_iff _ _).1 hf.2 i ⟨d + 1, buildP way d (p ++ [i])⟩ x.kids[i] (by rw [List.getElem?_map, List.getElem?_range h2]; rfl) (List.getElem?_eq_getElem hix)
      obtain ⟨z, hz, hlz⟩ := build_at hw hpat hs q d (p ++ [i]) x.kids[i] (by simp) hfi (by simpa using hq) (by rw [e]; simp)
      refine ⟨z, ?_, hlz⟩
      show (x.kids[i]?).bind _ = _
      rw [List.getElem?_eq_getElem hix]
      exact hz
theorem miss_labels {N D : Nat} {way : List Stp} (hw : WayOk N way) (hpat : ∀ s ∈ way, s.2.1.1 = 4 ∨ (s.2.1.1 = 3 ∧ s.2.2 = 0)) (hd : way.length ≤ D + 1) {vs : List Pt} (hv : vs.length = N) (hf : fitAll ((missQ D N way).map fun u => (⟨D + 1, u⟩ : Pt)) vs = true) : ∀ s ∈ way, ∃ x, valAt vs s.1 = some x ∧ LabFits s.2 x := fun s hs => by
  obtain ⟨h1, h2, h3, _⟩ := way_facts hw s hs
  cases hp : s.1 with
  | nil => exact absurd hp h1
  | cons i q =>
    have hi : i < N := by
      rcases h3 0 (by rw [hp]; simp) with ⟨_, h⟩ | ⟨h, _⟩
      · simpa [hp] using h
      · omega
    have hiv : i < vs.length := by omega
    have hfi := (fitAll_iff _ _).1 hf i ⟨D + 1, buildP way D [i]⟩ vs[i] (by
      unfold missQ
      rw [List.map_map, List.getElem?_map, List.getElem?_range hi]
      rfl) (List.getElem?_eq_getElem hiv)
    rw [hp, List.length_cons] at h2
    obtain ⟨y, hy, hl⟩ := build_at hw hpat hs q D [i] vs[i] (by simp) hfi (by omega) (by rw [hp]; rfl)
    refine ⟨y, ?_, hl⟩
    show (vs[i]?).bind _ = _
    rw [List.getElem?_eq_getElem hiv]
    exact hy
theorem patOf_kind (k : Kn) (c : Cs) : (patOf k c).1.1 = 4 ∨ ((patOf k c).1.1 = 3 ∧ (patOf k c).2 = 0) := by
  unfold patOf
  split
  · exact .inr ⟨rfl, rfl⟩
  · exact .inl rfl
theorem way_pat {k : Kn} {fs : List Fam} : ∀ (f : Nat) (t : Tr f) (way : List Stp), Tok k fs f t → toFail k fs f t = some way → way.length ≤ f ∧ ∀ s ∈ way, s.2.1.1 = 4 ∨ (s.2.1.1 = 3 ∧ s.2.2 = 0)
  | 0, _, _, _, h => by cases h
  | f + 1, t, way, ⟨_, h2, h3, h4⟩, h => by
    rw [toFail_eq] at h
    unfold failP at h
    split at h
    · obtain rfl := Option.some.inj h
      exact ⟨Nat.zero_le _, fun s hs => by simp at hs⟩
    · split at h
      · rename_i z hz
        obtain rfl := Option.some.inj h
        obtain ⟨c, hc, hcz⟩ := List.exists_of_findSome?_eq_some hz
        cases hu : toFail k fs f c.2 with
        | none => rw [hu] at hcz; cases hcz
        | some u =>
          rw [hu] at hcz
          obtain rfl := Option.some.inj hcz
          obtain ⟨q1, q2⟩ := way_pat f c.2 u (h3 c hc) hu
          refine ⟨by rw [List.length_append]; simp; omega, fun s hs => ?_⟩
          rcases List.mem_append.1 hs with hs | hs
          · exact q2 s hs
          · rw [List.mem_singleton.1 hs]; exact patOf_kind k c.1
      · obtain ⟨e, he, hez⟩ := List.exists_of_findSome?_eq_some h
        cases hu : toFail k fs f e with
        | none => rw [hu] at hez; cases hez
        | some u =>
          rw [hu] at hez
          obtain rfl := Option.some.inj hez
          obtain ⟨q1, q2⟩ := way_pat f e u (h4 e he) hu
          refine ⟨by rw [List.length_append]; simp; omega, fun s hs => ?_⟩
          rcases List.mem_append.1 hs with hs | hs
          · exact q2 s hs
          · rw [List.mem_singleton.1 hs]
            obtain ⟨h0, _⟩ := h2 (List.ne_nil_of_mem he)
            have h0' : 0 < (t.2.1.map (·.1)).length := by rw [List.length_map]; exact h0
            show (otherThan k fs (t.2.1.map (·.1))).1.1 = 4 ∨ _
            rw [other_eq k fs _ h0']
            split
            · exact patOf_kind k _
            · exact patOf_kind k _
/-- The row of a vector; -1: it has none. -/
def wantP (rows : List (List Pt)) (vs : List Pt) : Int := match rows.findIdx? fun row => fitAll row vs with
  | some i => (i : Int)
  | none => -1
theorem mem_linesR {rows : List (List Pt)} {l : Nat × List Pt} : l ∈ linesR rows ↔ rows[l.1]? = some l.2 := by
  constructor
  · intro h
    obtain ⟨j, hj, rfl⟩ := List.getElem_of_mem h
    rw [linesR_get]
    rw [linesR_len] at hj
    exact List.getElem?_eq_getElem hj
  · intro h
    obtain ⟨hj, e⟩ := List.getElem?_eq_some_iff.1 h
    refine List.mem_iff_getElem.2 ⟨l.1, by rw [linesR_len]; exact hj, ?_⟩
    rw [linesR_get, e]
theorem first_want {rows : List (List Pt)} {vs : List Pt} (hw : ∀ x ∈ rows, x.length = (rows.headD []).length) (hv : vs.length = (rows.headD []).length) : firstP (colsOf [] (rows.headD []).length (linesR rows)) vs (List.range rows.length) = wantP rows vs := by
  have hrow : ∀ r (h : r < rows.length), rowFit (colsOf [] (rows.headD []).length (linesR rows)) vs r = fitAll rows[r] vs := fun r hr => by
    rw [Bool.eq_iff_iff, fitAll_iff]
    unfold rowFit
    rw [List.all_eq_true]
    have hlr := hw _ (List.getElem_mem hr)
    constructor
    · intro h n p y hp hy
      by_cases hwl : wild p = true
      · exact fit_wild hwl y
      · have hwl : wild p = false := by simpa using hwl
        have hn : n < (rows.headD []).length := by
          have := (List.getElem?_eq_some_iff.1 hp).1
          omega
        have hmem : (r, p) ∈ spotsOf n (linesR rows) := mem_spotsOf.2 ⟨(r, rows[r]), mem_linesR.2 (List.getElem?_eq_getElem hr), hp, hwl, rfl⟩
        have hc := h ([], n, spotsOf n (linesR rows)) (mem_colsOf.2 ⟨n, hn, List.ne_nil_of_mem hmem, rfl⟩)
        have hva : valAt vs (cpath ([], n, spotsOf n (linesR rows))) = some y := by
          show (vs[n]?).bind (fun y => some y) = some y
          rw [hy]
          rfl
        exact (colFit_iff hva).1 hc (r, p) hmem rfl
    · intro h c hc
      obtain ⟨n, hn, _, rfl⟩ := mem_colsOf.1 hc
      have hnv : n < vs.length := by omega
      have hva : valAt vs (cpath ([], n, spotsOf n (linesR rows))) = some vs[n] := by
        show (vs[n]?).bind (fun y => some y) = some vs[n]
        rw [List.getElem?_eq_getElem hnv]
        rfl
      rw [colFit_iff hva]
      intro s hs e
      obtain ⟨l, hl, h1, _, h3⟩ := mem_spotsOf.1 hs
      have h4 := mem_linesR.1 hl
      rw [← h3, e, List.getElem?_eq_getElem hr] at h4
      rw [← Option.some.inj h4] at h1
      exact h n s.2 vs[n] h1 (List.getElem?_eq_getElem hnv)
  unfold firstP wantP
  cases hf : rows.findIdx? fun row => fitAll row vs with
  | none =>
    have : (List.range rows.length).find? (rowFit (colsOf [] (rows.headD []).length (linesR rows)) vs) = none := by
      rw [List.find?_eq_none]
      intro r hr
      have hr := List.mem_range.1 hr
      rw [hrow r hr]
      have := List.findIdx?_eq_none_iff.1 hf rows[r] (List.getElem_mem hr)
      rw [this]
      simp
    rw [this]
  | some i =>
    obtain ⟨hi, h1, h2⟩ := List.findIdx?_eq_some_iff_getElem.1 hf
    have : (List.range rows.length).find? (rowFit (colsOf [] (rows.headD []).length (linesR rows)) vs) = some i := by
      rw [List.find?_range_eq_some]
      refine ⟨by rw [hrow i hi]; exact h1, List.mem_range.2 hi, fun j hj => ?_⟩
      rw [hrow j (by omega)]
      have := h2 j hj
      simpa using this
    rw [this]
/-- What is answered decides as the rows do. -/
theorem decides {F : Nat} (hF : 1000 ≤ F) {fs : List Fam} {rows : List (List Pt)} {t : Tr F} {c : Cv F} (hc : CompIs F fs rows 0 (some (t, c))) (hne : rows ≠ []) {vs : List Pt} (hl : vs.length = (rows.headD []).length) (hs : ∀ k, knowF 0 [] fs = some k → ∀ n (h : n < vs.length), Suit k vs[n] (rows.filterMap (·[n]?))) :
    downP F t vs [] = wantP rows vs ∧ (c.1 = true → 0 ≤ wantP rows vs ∧ c.2.2 = []) ∧ (c.1 = false → c.2.2.length = vs.length) ∧ (∀ r ∈ c.2.1, (r : Int) ≠ wantP rows vs) ∧ (c.1 = false → fitAll (c.2.2.map fun u => (⟨F + 1, u⟩ : Pt)) vs = true → wantP rows vs < 0) := by
  obtain ⟨h0, k, h1, h2, h3, h4, _, rfl, rfl⟩ := comp_ok hc
  obtain ⟨hl200, _⟩ := long_len h0
  have hk := knowF_ok h1
  have hp := knowF_pl h1
  have hgood : ∀ c ∈ colsOf [] (rows.headD []).length (linesR rows), Good k 0 c := fun c hc => cols_good hl200 hc (h2.2 c hc _) 0
  obtain ⟨hnum1, hnum2⟩ := colsOf_nums [] (linesR rows) (rows.headD []).length
  have hpok : ∀ c ∈ colsOf [] (rows.headD []).length (linesR rows), Pok (rows.headD []).length [] c := fun c hc => by
    obtain ⟨q1, q2⟩ := hnum2 c hc
    have e : cpath c = [c.2.1] := by show c.1 ++ _ = _; rw [q1]; rfl
    refine ⟨?_, fun y hy => by simp at hy, by rw [e]; simp⟩
    rw [e]
    intro j hj
    obtain rfl : j = 0 := by simp at hj; omega
    exact .inl ⟨rfl, q2⟩
  have hnd : ((colsOf [] (rows.headD []).length (linesR rows)).map cpath).Nodup := by
    have e : (colsOf [] (rows.headD []).length (linesR rows)).map cpath = ((colsOf [] (rows.headD []).length (linesR rows)).map (·.2.1)).map fun i => [i] := by
      rw [List.map_map]
      refine List.map_congr_left fun c hc => ?_
      show c.1 ++ [c.2.1] = _
      rw [(hnum2 c hc).1]
      rfl
    rw [e]
    refine List.Pairwise.map _ (fun a b hab => ?_) hnum1
    intro q
    exact hab (by simpa using q)
  have hval : ∀ c ∈ colsOf [] (rows.headD []).length (linesR rows), ∃ x, valAt vs (cpath c) = some x ∧ Suit k x (c.2.2.map (·.2)) := fun c hc => by
    obtain ⟨n, hn, _, rfl⟩ := mem_colsOf.1 hc
    have hnv : n < vs.length := by omega
    refine ⟨vs[n], ?_, (hs k h1 n hnv).mono fun q hq => ?_⟩
    · show (vs[n]?).bind (fun y => some y) = some vs[n]
      rw [List.getElem?_eq_getElem hnv]
      rfl
    · obtain ⟨s, hsm, rfl⟩ := List.mem_map.1 hq
      obtain ⟨l, hlm, h5, _, _⟩ := mem_spotsOf.1 hsm
      exact List.mem_filterMap.2 ⟨l.2, List.mem_of_getElem? (mem_linesR.1 hlm), h5⟩
  have hdown : downP F (treeQ F k fs rows).1 vs [] = wantP rows vs := by
    have := tree_down hk hp vs (rows.headD []).length F 0 (colsOf [] (rows.headD []).length (linesR rows)) (List.range rows.length) 0 [] hgood trivial hpok hnd hval h3 (Nat.le_trans h4 hF)
    rw [first_want h2.1 hl] at this
    exact this
  refine ⟨hdown, ?_, ?_, ?_, ?_⟩
  · intro hw
    have hnf : toFail k fs F (treeQ F k fs rows).1 = none := by
      have hw : (!(toFail k fs F (treeQ F k fs rows).1).isSome) = true := hw
      cases hq : toFail k fs F (treeQ F k fs rows).1 with
      | none => rfl
      | some y => rw [hq] at hw; cases hw
    refine ⟨?_, ?_⟩
    · rcases Int.lt_or_le (wantP rows vs) 0 with hneg | hpos
      · have hm1 : wantP rows vs = -1 := by
          unfold wantP at hneg ⊢
          split at hneg
          · omega
          · rfl
        have := down_fail k fs vs F (treeQ F k fs rows).1 [] (hdown.trans hm1)
        rw [hnf] at this
        cases this
      · exact hpos
    · unfold coverQ
      rw [hnf]
  · intro hw
    have hw : (!(toFail k fs F (treeQ F k fs rows).1).isSome) = false := hw
    cases hq : toFail k fs F (treeQ F k fs rows).1 with
    | none => rw [hq] at hw; cases hw
    | some way =>
      unfold coverQ
      rw [hq]
      cases rows with
      | nil => exact absurd rfl hne
      | cons r rs =>
        show (missQ F r.length way).length = _
        unfold missQ
        rw [List.length_map, List.length_range, hl]
        rfl
  · intro r hr e
    have hr : r ∈ (List.range rows.length).filter fun r => !(metP F (treeQ F k fs rows).1).contains r := hr
    rw [List.mem_filter] at hr
    have := down_met vs F (treeQ F k fs rows).1 [] r (hdown.trans e.symm)
    have h5 := hr.2
    simp [this] at h5
  · intro hw hfit
    have hw : (!(toFail k fs F (treeQ F k fs rows).1).isSome) = false := hw
    cases hq : toFail k fs F (treeQ F k fs rows).1 with
    | none => rw [hq] at hw; cases hw
    | some way =>
      obtain ⟨hwo, _⟩ := start_way hk F 0 (rows.headD []).length (linesR rows) (List.range rows.length) way hq
      obtain ⟨hwl, hwp⟩ := way_pat F _ way (treeP_tok hk hp F 0 _ _ 0 hgood) hq
      have hmiss : (coverQ F k fs F (treeQ F k fs rows).1 rows).2.2 = missQ F (rows.headD []).length way := by
        unfold coverQ
        rw [hq]
        cases rows with
        | nil => exact absurd rfl hne
        | cons r rs => rfl
      rw [hmiss] at hfit
      have hlab := miss_labels hwo hwp (by omega) hl hfit
      have := fail_down h1 vs (rows.headD []).length F 0 (colsOf [] (rows.headD []).length (linesR rows)) (List.range rows.length) 0 [] way hgood trivial hpok hnd hq hlab
      have h6 : downP F (treeQ F k fs rows).1 vs [] = -1 := this
      rw [hdown] at h6
      omega
end Go.Proofs.Ytpdmkhnonbbhnaa

namespace Go.Proofs.Ytpdmkhnonbbhnaa
open Go.RowKit Go.Maps

def WherePost (fs : List Fam) (n : Str) (w : World) (r : Ending) (w' : World) : Prop := w' = w ∧ ((∃ (i j : Nat) (f : Fam), fs[i]? = some f ∧ f.1[j]? = some n ∧ r = .returned (.tuple #[.int .i64 i, .int .i64 j])) ∨ ((∀ f ∈ fs, n ∉ f.1) ∧ r = .returned (.tuple #[.int .i64 (-1), .int .i64 (-1)])))
set_option maxHeartbeats 8000000 in
set_option maxRecDepth 10000 in
theorem where_any {w : World} {S : Nat → Prop} (fs : List Fam) (n : Str) (fa : Option Addr) (fc : Nat) (hFm : Fams w S (.slice fa fs.length fc) fs) (hfl : fs.length ≤ 10000) (hfw : ∀ f ∈ fs, f.1.length < 140737488355328) :
    Calls Try.prog 25 #[.slice fa fs.length fc, .string ⟨n.toArray⟩] w (WherePost fs n w) := by
  obtain ⟨_, _, he2, hrow2⟩ := RowP.open hFm
  injection he2 with he2 hx2 hcc2
  subst he2 hcc2
  clear hx2 hFm
  have HR2 : Hid (fs ≠ [] → ∃ g o, fa = some ⟨g, o, none⟩ ∧ fs.length ≤ fc ∧ ∀ j (h : j < fs.length), S g ∧ (∃ ad cap, w.cell? ⟨g, o + j * 2, none⟩ = some (.slice ad fs[j].1.length cap) ∧ Strs w S (.slice ad fs[j].1.length cap) fs[j].1) ∧ ∃ ad cap, w.cell? ⟨g, o + j * 2 + 1, none⟩ = some (.slice ad fs[j].2.length cap) ∧ Ints w S (.slice ad fs[j].2.length cap) fs[j].2) := hrow2
  have HFW : Hid (∀ f ∈ fs, f.1.length < 140737488355328) := hfw
  clear hrow2 hfw
  go_enter Try.func25, Try.ntmps25
  go_wp2
  go_loopw [6, 7] (fun iv _ wr => ∃ (i : Nat), i ≤ fs.length ∧ iv = .int .i64 i ∧ wr = w ∧ Hid (∀ f ∈ fs.take i, n ∉ f.1)) (fun iv _ _ => fs.length - (intOf iv).toNat)
  case atStart => exact ⟨0, by omega, by go_num, rfl, fun f hf => by simp at hf⟩
  case round =>
    obtain ⟨i, hi, rfl, hw, HM⟩ := hrel
    obtain rfl := hw.symm
    by_cases hif : i < fs.length
    · obtain ⟨gf, of, rfl, hcf, hr⟩ := HR2.out (fun e => by rw [e] at hif; simp at hif)
      obtain ⟨s0, ⟨ad, cap, q, hst⟩, _⟩ := hr i hif
      have hnl : fs[i].1.length < 140737488355328 := HFW.out _ (List.getElem_mem hif)
      have hget : fs[i]? = some fs[i] := List.getElem?_eq_getElem hif
      clear hr s0
      generalize fs[i] = fi at q hst hnl hget
      have HTK : Hid (n ∉ fi.1 → ∀ f ∈ fs.take (i + 1), n ∉ f.1) := fun hn f hf => by
        rw [List.take_add_one, hget] at hf
        rcases List.mem_append.1 hf with hf | hf
        · exact HM.out f hf
        · obtain rfl : f = fi := by simpa using hf
          exact hn
      have HGET : Hid (fs[i]? = some fi) := hget
      have HIF : Hid (i < fs.length) := hif
      have i1 : (0 : Int) ≤ (i : Int) := by omega
      have i2 : (i : Int) < (fs.length : Int) := by omega
      clear hget
      obtain ⟨ns, hns⟩ : ∃ ns, ns = fi.1 := ⟨_, rfl⟩
      have HNS : Hid (ns = fi.1) := hns
      rw [← hns] at q hst hnl
      clear hns
      obtain ⟨_, _, he3, hrow3⟩ := RowP.open hst
      injection he3 with he3 hx3 hcc3
      subst he3 hcc3
      clear hx3 hst
      have HR3 : Hid (ns ≠ [] → ∃ g o, ad = some ⟨g, o, none⟩ ∧ ns.length ≤ cap ∧ ∀ j (h : j < ns.length), S g ∧ w.cell? ⟨g, o + j * 1, none⟩ = some (.string ⟨ns[j].toArray⟩) ∧ ns[j].length < 140737488355328) := hrow3
      clear hrow3
      go_wp2
      go_loopw [7] (fun kv wr => ∃ (k : Nat), k ≤ ns.length ∧ kv = .int .i64 k ∧ wr = w ∧ Hid (n ∉ ns.take k)) (fun kv _ => ns.length - (intOf kv).toNat)
      case atStart => exact ⟨0, by omega, by go_num, rfl, by show _ ∉ _; simp⟩
      case round =>
        obtain ⟨k, hkn, rfl, hw, HM2⟩ := hrel
        obtain rfl := hw.symm
        by_cases hkf : k < ns.length
        · obtain ⟨gs, os, rfl, hcs, hrs⟩ := HR3.out (fun e => by rw [e] at hkf; simp at hkf)
          obtain ⟨_, y0, hnk⟩ := hrs k hkf
          rw [Nat.mul_one] at y0
          have k1 : (0 : Int) ≤ (k : Int) := by omega
          have k2 : (k : Int) < (ns.length : Int) := by omega
          have hgk : ns[k]? = some ns[k] := List.getElem?_eq_getElem hkf
          clear hrs
          generalize ns[k] = m at y0 hnk hgk
          have HKF : Hid (k < ns.length ∧ ns[k]? = some m) := ⟨hkf, hgk⟩
          have HTK2 : Hid (n ≠ m → n ∉ ns.take (k + 1)) := fun hne => by
            rw [List.take_add_one, hgk]
            intro h
            rcases List.mem_append.1 h with h | h
            · exact HM2.out h
            · exact hne (by simpa using h)
          clear hgk
          cases hA : (m == n) with
          | true =>
            have hmn : m = n := eq_of_beq hA
            have HMN : Hid (m = n) := hmn
            clear hmn
            go_wp2
            refine bodyPost_ret (v := .tuple #[.int .i64 i, .int .i64 k]) (by simp [results, Try.results25, go_sem]) rfl ?_
            exact ⟨rfl, .inl ⟨i, k, fi, HGET.out, by rw [← HNS.out, HKF.out.2, HMN.out], rfl⟩⟩
          | false =>
            have HMN : Hid (n ≠ m) := fun e => by rw [e] at hA; simp at hA
            go_wp2
            refine ⟨⟨k + 1, HKF.out.1, by go_num, by trivial, HTK2.out HMN.out⟩, by simp [intOf]; have := HKF.out.1; omega⟩
        · have hke : k = ns.length := by omega
          subst hke
          have k2 : ¬ ((ns.length : Nat) : Int) < (ns.length : Int) := by omega
          have HM3 : Hid (n ∉ ns) := by
            have := HM2.out
            rw [List.take_length] at this
            exact this
          clear HM2 HR3
          go_wp2
          refine ⟨⟨i + 1, HIF.out, by go_num, by trivial, HTK.out (by rw [← HNS.out]; exact HM3.out)⟩, by simp [intOf]; have := HIF.out; omega⟩
    · have hie : i = fs.length := by omega
      subst hie
      have i2 : ¬ ((fs.length : Nat) : Int) < (fs.length : Int) := by omega
      have HM3 : Hid (∀ f ∈ fs, n ∉ f.1) := by
        have := HM.out
        rw [List.take_length] at this
        exact this
      clear HM HR2
      go_wp2
      refine bodyPost_ret (v := .tuple #[.int .i64 (-1), .int .i64 (-1)]) (by simp [results, Try.results25, go_sem]) rfl ?_
      exact ⟨rfl, .inr ⟨HM3.out, rfl⟩⟩
end Go.Proofs.Ytpdmkhnonbbhnaa

namespace Go.Proofs.Ytpdmkhnonbbhnaa
open Go.RowKit Go.Maps

def FitC (p v : Pt) : Prop := ∀ (w : World) (S : Nat → Prop) (x y : Value), (∀ b, S b → b < w.heap.size) → PtV w S x p → PtV w S y v → Calls Try.prog 26 #[x, y] w fun r w' => r = .returned (.bool (fit p v)) ∧ Below w.heap.size w w'
def FitAllC (row vs : List Pt) : Prop := ∀ (w : World) (S : Nat → Prop) (a b : Value), (∀ y, S y → y < w.heap.size) → Pats w S a row → Pats w S b vs → Calls Try.prog 10 #[a, b] w fun r w' => r = .returned (.bool (fitAll row vs)) ∧ Below w.heap.size w w'
set_option maxHeartbeats 8000000 in
set_option maxRecDepth 10000 in
theorem fit_step (p v : Pt) (hC : p.kids.length = v.kids.length → FitAllC p.kids v.kids) : FitC p v := by
  intro w S x y hS hx hy
  obtain ⟨pa, pc, rfl, hpn, hpl, hpk⟩ := hx
  obtain ⟨va, vc, rfl, hvn, hvl, hvk⟩ := hy
  have hfe := fit_eq p v
  obtain ⟨W2, hW2⟩ : ∃ W2, W2 = (w.alloc (Obj.cells #[.int .i64 p.kind, .string ⟨p.name.toArray⟩, .int .i64 p.num, .slice pa p.kids.length pc] 39)).alloc (Obj.cells #[.int .i64 v.kind, .string ⟨v.name.toArray⟩, .int .i64 v.num, .slice va v.kids.length vc] 39) := ⟨_, rfl⟩
  have hb2 : Below w.heap.size w W2 := by rw [hW2]; exact ((Below.refl _ _).alloc (Nat.le_refl _) _).alloc (by simp) _
  have HB2 : Hid (Below w.heap.size w W2) := hb2
  have HCK : Hid (p.kids.length = v.kids.length → Calls Try.prog 10 #[.slice pa p.kids.length pc, .slice va v.kids.length vc] W2 fun r w' => r = .returned (.bool (fitAll p.kids v.kids)) ∧ Below W2.heap.size W2 w') := fun e => hC e W2 S _ _ (fun y hy => by have := hS y hy; have := hb2.size; omega) (hpk.on (Keeps.of hb2 hS)) (hvk.on (Keeps.of hb2 hS))
  have HFE : Hid (fit p v = _) := hfe
  have HL : Hid (p.kids.length < 140737488355328 ∧ v.kids.length < 140737488355328) := ⟨hpl, hvl⟩
  clear hb2 hfe hpk hvk hC hS hpn hvn
  generalize hft : fit p v = ft at *
  generalize hfa : fitAll p.kids v.kids = fa at *
  clear hft hfa
  generalize p.kind = pk at *
  generalize p.name = pn at *
  generalize p.num = pm at *
  generalize p.kids.length = pl at *
  generalize v.kind = vk at *
  generalize v.name = vn at *
  generalize v.num = vm at *
  generalize v.kids.length = vl at *
  by_cases h1 : pk = 1
  · subst h1
    have HF1 : Hid (ft = true) := by have := HFE.out; show _ = _; simpa using this
    go_enter Try.func26, Try.ntmps26
    go_wp2
    refine bodyPost_ret (v := .bool true) (by simp [results, Try.results26, go_sem]) rfl ?_
    rw [← hW2, HF1.out]
    exact ⟨rfl, HB2.out⟩
  by_cases h2 : pk = 2
  · subst h2
    have HF1 : Hid (ft = true) := by have := HFE.out; show _ = _; simpa using this
    go_enter Try.func26, Try.ntmps26
    go_wp2
    refine bodyPost_ret (v := .bool true) (by simp [results, Try.results26, go_sem]) rfl ?_
    rw [← hW2, HF1.out]
    exact ⟨rfl, HB2.out⟩
  by_cases h3 : pk = 3
  · subst h3
    by_cases hk : vk = 3
    · subst hk
      have HF1 : Hid (ft = (vm == pm)) := by have := HFE.out; show _ = _; rw [this]; by_cases e : vm = pm <;> simp [e]
      clear h1 h2
      go_enter Try.func26, Try.ntmps26
      go_wp2
      refine bodyPost_ret (v := .bool (vm == pm)) (by simp [results, Try.results26, go_sem]) rfl ?_
      rw [← hW2, HF1.out]
      exact ⟨rfl, HB2.out⟩
    · have HF1 : Hid (ft = false) := by have := HFE.out; show _ = _; rw [this]; simp [hk]
      have hk' : (vk == 3) = false := by simpa using hk
      clear h1 h2 hk
      go_enter Try.func26, Try.ntmps26
      go_wp2
      refine bodyPost_ret (v := .bool false) (by simp [results, Try.results26, go_sem]) rfl ?_
      rw [← hW2, HF1.out]
      exact ⟨rfl, HB2.out⟩
  have e1 : (pk == 1) = false := by simpa using h1
  have e2 : (pk == 2) = false := by simpa using h2
  have e3 : (pk == 3) = false := by simpa using h3
  have HFF : Hid (ft = (decide (vk = 4 ∧ vn = pn ∧ vl = pl) && fa)) := by
    have := HFE.out
    show _ = _
    rw [this, if_neg (by omega), if_neg h3]
  clear h1 h2 h3 HFE
  by_cases hk : vk = 4
  · subst hk
    cases hn : (vn == pn) with
    | true =>
      have hvp : vn = pn := eq_of_beq hn
      by_cases hlen : vl = pl
      · subst hlen
        have CK := HCK.out rfl
        have HF1 : Hid (ft = fa) := by have := HFF.out; show _ = _; rw [this, hvp]; simp
        subst hvp
        clear HCK HFF hn
        rw [hW2] at CK
        go_enter Try.func26, Try.ntmps26
        go_wp2_with (first | (go_at_call 10; (with_reducible refine Calls.mono CK ?_); rintro e' w3 ⟨rfl, hb3⟩))
        refine bodyPost_ret (v := .bool fa) (by simp [results, Try.results26, go_sem]) rfl ?_
        rw [HF1.out]
        rw [← hW2] at hb3
        exact ⟨rfl, HB2.out.trans (hb3.mono HB2.out.size)⟩
      · have HF1 : Hid (ft = false) := by have := HFF.out; show _ = _; rw [this]; simp [hlen]
        have hl' : ((vl : Int) != (pl : Int)) = true := by simp; omega
        clear HCK HFF hlen
        subst hvp
        go_enter Try.func26, Try.ntmps26
        go_wp2
        refine bodyPost_ret (v := .bool false) (by simp [results, Try.results26, go_sem]) rfl ?_
        rw [← hW2, HF1.out]
        exact ⟨rfl, HB2.out⟩
    | false =>
      have hvp : ¬ vn = pn := fun e => by rw [e] at hn; simp at hn
      have HF1 : Hid (ft = false) := by have := HFF.out; show _ = _; rw [this]; simp [hvp]
      have hn' : (vn != pn) = true := by simpa using hvp
      clear HCK HFF hvp
      go_enter Try.func26, Try.ntmps26
      go_wp2
      refine bodyPost_ret (v := .bool false) (by simp [results, Try.results26, go_sem]) rfl ?_
      rw [← hW2, HF1.out]
      exact ⟨rfl, HB2.out⟩
  · have HF1 : Hid (ft = false) := by have := HFF.out; show _ = _; rw [this]; simp [hk]
    have hk' : (vk != 4) = true := by simpa using hk
    clear HCK HFF hk
    go_enter Try.func26, Try.ntmps26
    go_wp2
    refine bodyPost_ret (v := .bool false) (by simp [results, Try.results26, go_sem]) rfl ?_
    rw [← hW2, HF1.out]
    exact ⟨rfl, HB2.out⟩
theorem fitAll_take {row vs : List Pt} {j : Nat} (hr : j < row.length) (hv : j < vs.length) : fitAll (row.take (j + 1)) vs = (fitAll (row.take j) vs && fit row[j] vs[j]) := by
  rw [Bool.eq_iff_iff, Bool.and_eq_true, fitAll_iff, fitAll_iff]
  constructor
  · intro h
    refine ⟨fun n p y hp hy => h n p y ?_ hy, h j _ _ (by rw [List.getElem?_take, if_pos (by omega)]; exact List.getElem?_eq_getElem hr) (List.getElem?_eq_getElem hv)⟩
    rw [List.getElem?_take] at hp ⊢
    split at hp
    · rw [if_pos (by omega)]; exact hp
    · cases hp
  · rintro ⟨h1, h2⟩ n p y hp hy
    rw [List.getElem?_take] at hp
    split at hp
    · by_cases e : n = j
      · subst e
        rw [List.getElem?_eq_getElem hr] at hp
        rw [List.getElem?_eq_getElem hv] at hy
        rw [← Option.some.inj hp, ← Option.some.inj hy]
        exact h2
      · exact h1 n p y (by rw [List.getElem?_take, if_pos (by omega)]; exact hp) hy
    · cases hp
theorem fitAll_some {row vs : List Pt} {j : Nat} (hr : j < row.length) (hv : j < vs.length) (h : fit row[j] vs[j] = false) : fitAll row vs = false := by
  cases hq : fitAll row vs with
  | false => rfl
  | true =>
    have := (fitAll_iff _ _).1 hq j _ _ (List.getElem?_eq_getElem hr) (List.getElem?_eq_getElem hv)
    rw [h] at this
    cases this
set_option maxHeartbeats 8000000 in
set_option maxRecDepth 10000 in
theorem fitAll_step (row vs : List Pt) (hl : row.length ≤ vs.length) (hr : vs.length < 140737488355328) (hC : ∀ p ∈ row, ∀ v, FitC p v) : FitAllC row vs := by
  intro w S a b hS hP hV
  obtain ⟨ra, rc, rfl, hrow⟩ := RowP.open hP
  obtain ⟨va, vc, rfl, hvow⟩ := RowP.open hV
  have HS : Hid (∀ b, S b → b < w.heap.size) := hS
  have HC : Hid (∀ p ∈ row, ∀ v, FitC p v) := hC
  have HR : Hid (row ≠ [] → ∃ g o, ra = some ⟨g, o, none⟩ ∧ row.length ≤ rc ∧ ∀ j (h : j < row.length), PtP w S g (o + j * 4) row[j]) := hrow
  have HV : Hid (vs ≠ [] → ∃ g o, va = some ⟨g, o, none⟩ ∧ vs.length ≤ vc ∧ ∀ j (h : j < vs.length), PtP w S g (o + j * 4) vs[j]) := hvow
  clear hS hC hP hrow hV hvow
  go_enter Try.func10, Try.ntmps10
  go_wp2
  go_loopw [5] (fun iv wr => ∃ (j : Nat), j ≤ row.length ∧ iv = .int .i64 j ∧ Hid (Below w.heap.size w wr) ∧ Hid (fitAll (row.take j) vs = true)) (fun iv _ => row.length - (intOf iv).toNat)
  case atStart => exact ⟨0, by omega, by go_num, Below.refl _ _, by show _ = _; simp [fitAll]⟩
  case round =>
    obtain ⟨j, hj, rfl, HB, HA⟩ := hrel
    by_cases hlt : j < row.length
    · have hltv : j < vs.length := by omega
      obtain ⟨g, o, rfl, hc, h1⟩ := HR.out (fun e => by rw [e] at hlt; simp at hlt)
      obtain ⟨g', o', rfl, hc', h2⟩ := HV.out (fun e => by rw [e] at hltv; simp at hltv)
      have hk := Keeps.of HB.out HS.out
      obtain ⟨a0, p0, p1, p2, l1, l2, ad1, cp1, p3, P1⟩ := ((h1 j hlt).on hk).open
      obtain ⟨b0, q0, q1, q2, m1, m2, ad2, cp2, q3, P2⟩ := ((h2 j hltv).on hk).open
      have HTK : Hid (fitAll (row.take (j + 1)) vs = (fitAll (row.take j) vs && fit row[j] vs[j])) := fitAll_take hlt hltv
      have HNO : Hid (fit row[j] vs[j] = false → fitAll row vs = false) := fitAll_some hlt hltv
      have hwr : w.heap.size ≤ wr.heap.size := HB.out.size
      have CF : ∀ W', Below wr.heap.size wr W' → Calls Try.prog 26 #[.agg #[.int .i64 row[j].kind, .string ⟨row[j].name.toArray⟩, .int .i64 row[j].num, .slice ad1 row[j].kids.length cp1], .agg #[.int .i64 vs[j].kind, .string ⟨vs[j].name.toArray⟩, .int .i64 vs[j].num, .slice ad2 vs[j].kids.length cp2]] W' fun r w' => r = .returned (.bool (fit row[j] vs[j])) ∧ Below W'.heap.size W' w' := fun W' hb' => by
        have hB' : ∀ b, S b → b < wr.heap.size := fun b hb => by have := HS.out b hb; omega
        exact HC.out _ (List.getElem_mem hlt) _ W' S _ _ (fun b hb => by have := hb'.size; have := hB' b hb; omega) ⟨ad1, cp1, rfl, l1, l2, P1.on (Keeps.of hb' hB')⟩ ⟨ad2, cp2, rfl, m1, m2, P2.on (Keeps.of hb' hB')⟩
      have CW := CF wr.drew (Below.refl _ _).drew
      have i1 : (0 : Int) ≤ (j : Int) := by omega
      have i2 : (j : Int) < (row.length : Int) := by omega
      have i3 : (j : Int) < (vs.length : Int) := by omega
      have HJ : Hid (j < row.length) := hlt
      clear h1 h2 hk l1 l2 m1 m2 P1 P2 CF HC HR HV a0 b0
      generalize fit row[j] vs[j] = ft at *
      generalize row[j].kind = k1 at *
      generalize row[j].name = s1 at *
      generalize row[j].num = n1 at *
      generalize row[j].kids.length = c1 at *
      generalize vs[j].kind = k2 at *
      generalize vs[j].name = s2 at *
      generalize vs[j].num = n2 at *
      generalize vs[j].kids.length = c2 at *
      clear hlt hltv
      have HS8 : Hid ((wr.cell? ⟨g, o + j * 4, none⟩ = some (.int .i64 k1) ∧ wr.cell? ⟨g, o + j * 4 + 1, none⟩ = some (.string ⟨s1.toArray⟩) ∧ wr.cell? ⟨g, o + j * 4 + 2, none⟩ = some (.int .i64 n1) ∧ wr.cell? ⟨g, o + j * 4 + 3, none⟩ = some (.slice ad1 c1 cp1)) ∧ wr.cell? ⟨g', o' + j * 4, none⟩ = some (.int .i64 k2) ∧ wr.cell? ⟨g', o' + j * 4 + 1, none⟩ = some (.string ⟨s2.toArray⟩) ∧ wr.cell? ⟨g', o' + j * 4 + 2, none⟩ = some (.int .i64 n2) ∧ wr.cell? ⟨g', o' + j * 4 + 3, none⟩ = some (.slice ad2 c2 cp2)) := ⟨⟨p0, p1, p2, p3⟩, q0, q1, q2, q3⟩
      go_upto_region 4 with fail
      go_region_with (first | (go_at_call 26; (with_reducible refine Calls.mono CW ?_); rintro e' w1 ⟨rfl, hb1⟩))
      all_goals
        have HB1 : Hid (Below w.heap.size w w1) := HB.out.drew.trans (hb1.mono hwr)
        clear hb1 p0 p1 p2 p3 q0 q1 q2 q3 CW HS8
        cases ft with
        | true =>
          go_wp2
          refine ⟨⟨j + 1, HJ.out, by go_num, HB1.out, ?_⟩, by simp [intOf]; have := HJ.out; omega⟩
          show _ = _
          rw [HTK.out, HA.out]
          rfl
        | false =>
          go_wp2
          refine bodyPost_ret (v := .bool false) (by simp [results, Try.results10, go_sem]) rfl ?_
          rw [HNO.out (by trivial)]
          exact ⟨rfl, HB1.out⟩
    · have hje : j = row.length := by omega
      subst hje
      have i2 : ¬ ((row.length : Nat) : Int) < (row.length : Int) := by omega
      have HA2 : Hid (fitAll row vs = true) := by
        have := HA.out
        rw [List.take_length] at this
        exact this
      clear HA HR HV HC
      go_wp2
      refine bodyPost_ret (v := .bool true) (by simp [results, Try.results10, go_sem]) rfl ?_
      rw [HA2.out]
      exact ⟨rfl, HB.out⟩
theorem deep_row : ∀ ps : List Pt, ∃ D, ∀ p ∈ ps, p.1 < D
  | [] => ⟨0, fun p hp => by simp at hp⟩
  | q :: ps => by
    obtain ⟨D, h⟩ := deep_row ps
    refine ⟨max D (q.1 + 1), fun p hp => ?_⟩
    rcases List.mem_cons.1 hp with rfl | hp
    · omega
    · have := h p hp; omega
theorem fit_any : ∀ (D : Nat) (p v : Pt), p.1 < D → FitC p v
  | 0, _, _, h => absurd h (Nat.not_lt_zero _)
  | D + 1, p, v, h => fun w S x y hS hx hy => fit_step p v (fun e => by
      obtain ⟨_, _, _, _, hl, _⟩ := hy
      exact fitAll_step p.kids v.kids (by omega) hl fun q hq u => fit_any D q u (by have := Pt.kids_lt hq; omega)) w S x y hS hx hy
theorem fitAll_any (row vs : List Pt) (hl : row.length ≤ vs.length) (hr : vs.length < 140737488355328) : FitAllC row vs := by
  obtain ⟨D, hD⟩ := deep_row row
  exact fitAll_step row vs hl hr fun p hp v => fit_any D p v (hD p hp)
end Go.Proofs.Ytpdmkhnonbbhnaa

namespace Go.Proofs.Ytpdmkhnonbbhnaa
open Go.RowKit Go.Maps

/-- A pattern whose constructors are known, with as many fields as they have. -/
def WellN (k : Kn) : (d : Nat) → Pn d → Prop
  | 0, _ => True
  | d + 1, t => t.1.1 = 4 → (∃ e, look k t.1.2.1 = some e ∧ t.2.length = e.2.2) ∧ ∀ u ∈ t.2, WellN k d u
def Well (k : Kn) (p : Pt) : Prop := WellN k p.1 p.2
theorem Well_iff (k : Kn) : ∀ p : Pt, Well k p ↔ (p.kind = 4 → (∃ e, look k p.name = some e ∧ p.kids.length = e.2.2) ∧ ∀ q ∈ p.kids, Well k q)
  | ⟨0, t⟩ => t.elim
  | ⟨d + 1, t⟩ => by
    have e : (Pt.kids ⟨d + 1, t⟩) = t.2.map fun u => (⟨d, u⟩ : Pt) := rfl
    show WellN k (d + 1) t ↔ _
    unfold WellN
    rw [e, List.length_map]
    constructor
    · intro h h4
      obtain ⟨h1, h2⟩ := h h4
      refine ⟨h1, fun q hq => ?_⟩
      obtain ⟨u, hu, rfl⟩ := List.mem_map.1 hq
      exact h2 u hu
    · intro h h4
      obtain ⟨h1, h2⟩ := h h4
      exact ⟨h1, fun u hu => h2 ⟨d, u⟩ (List.mem_map.2 ⟨u, hu, rfl⟩)⟩
/-- The patterns of right columns are such. -/
theorem well_of {k : Kn} {fs : List Fam} (hk : KnOk k fs) : ∀ (D : Nat) (spots : List Sp), Rall k spots → ∀ s ∈ spots, s.2.1 < D → Well k s.2
  | 0, _, _, _, _, h => absurd h (Nat.not_lt_zero _)
  | D + 1, spots, hr, s, hs, hD => by
    obtain ⟨ht, hc⟩ := (Rall_iff k spots).1 hr
    rw [Well_iff]
    intro h4
    obtain ⟨e, he, hl, hlk⟩ := mayBe_con (spot_kind ht hs).2 h4
    refine ⟨⟨e, he, hl⟩, fun q hq => ?_⟩
    by_cases hw : wild q = true
    · rw [Well_iff]
      intro hq4
      have := (wild_iff q).1 hw
      omega
    · have hw : wild q = false := by simpa using hw
      obtain ⟨n, hn, rfl⟩ := List.getElem_of_mem hq
      have hcs : csOf s.2 ∈ casesOf k spots := ((casesOf_facts k spots (apart_of hk ht)).2 _).2 (List.mem_map.2 ⟨s, hs, rfl⟩)
      have hio := (isOf_iff hk ht hcs hs).2 rfl
      have hcn : (csOf s.2).1 = s.2.name := by unfold csOf; rw [if_pos h4]
      have hmem : (s.1, s.2.kids[n]) ∈ spotsOf n (linesOf (spots.filter (isOf (csOf s.2)))) := mem_spotsOf.2 ⟨(s.1, s.2.kids), List.mem_map.2 ⟨s, List.mem_filter.2 ⟨hs, hio⟩, rfl⟩, List.getElem?_eq_getElem hn, hw, rfl⟩
      have hcol := hc _ hcs ([], n, spotsOf n (linesOf (spots.filter (isOf (csOf s.2))))) (mem_colsOf.2 ⟨n, by rw [hcn, hlk, ← hl]; exact hn, List.ne_nil_of_mem hmem, rfl⟩)
      have hlt : s.2.kids[n].1 < D := by have := Pt.kids_lt (List.getElem_mem hn); omega
      exact well_of hk D _ hcol _ hmem hlt
theorem suit_nil (k : Kn) : ∀ (d : Nat) (t : Pn d), SuitN k d t []
  | 0, t => t.elim
  | d + 1, t => ⟨fun p hp => by simp at hp, fun p hp => by simp at hp, fun n h => suit_nil k d _⟩
theorem below_take {n : Nat} {nm : Str} {ps : List Pt} {i : Nat} (hi : i < ps.length) : below n nm (ps.take (i + 1)) = below n nm (ps.take i) ++ below n nm [ps[i]] := by
  rw [List.take_add_one, List.getElem?_eq_getElem hi]
  unfold below
  rw [List.filterMap_append]
  rfl
/-- A pattern that was copied, and where its fields lie. -/
abbrev Cq4 := Pt × Option Addr × Nat
def cpC (q : Cq4) : List Value := [.int .i64 q.1.kind, .string ⟨q.1.name.toArray⟩, .int .i64 q.1.num, .slice q.2.1 q.1.kids.length q.2.2]
theorem cpC_get : ∀ (l : List Cq4) (j c : Nat) (h : j < l.length), c < 4 → (l.flatMap cpC)[j * 4 + c]? = (cpC l[j])[c]? := fun l j c h hc => flat_get (k := 4) l (fun _ _ => rfl) j h c hc
structure Sn (w : World) (S : Nat → Prop) (B : Nat) (l : List Cq4) (v : Value) (wr : World) : Prop where
  own : wr.ownsRow B 39 4 v l.length (l.flatMap cpC)
  kids : ∀ q ∈ l, q.1.name.length < 140737488355328 ∧ q.1.kids.length < 140737488355328 ∧ Pats w S (.slice q.2.1 q.1.kids.length q.2.2) q.1.kids
theorem Sn.start {w : World} {S : Nat → Prop} (B : Nat) (wr : World) : Sn w S B [] (.slice none 0 0) wr := ⟨World.ownsRow_nil _ _ _ _, fun q hq => by simp at hq⟩
theorem Sn.on {w : World} {S : Nat → Prop} {B : Nat} {l : List Cq4} {v : Value} {wr w' : World} (h : Sn w S B l v wr) (hb : Below wr.heap.size wr w') : Sn w S B l v w' := ⟨own_keep h.own fun k hk => hb.block k (h.own.lt k hk).2, h.kids⟩
theorem Sn.form {w : World} {S : Nat → Prop} {B : Nat} {l : List Cq4} {v : Value} {wr : World} (h : Sn w S B l v wr) : ∃ a c, v = .slice a l.length c := by
  rcases h.own.2 with ⟨e, h0⟩ | ⟨g, cap, cur, e, _⟩
  · exact ⟨none, 0, by rw [e, h0]⟩
  · exact ⟨_, _, e⟩
theorem Sn.snoc {w : World} {S : Nat → Prop} {B : Nat} {l : List Cq4} {v v' : Value} {wr : World} (h : Sn w S B l v wr) {q : Cq4} (hq : q.1.name.length < 140737488355328 ∧ q.1.kids.length < 140737488355328 ∧ Pats w S (.slice q.2.1 q.1.kids.length q.2.2) q.1.kids) {w7 : World} (ho : w7.ownsRow B 39 4 v' (l.length + 1) (l.flatMap cpC ++ cpC q)) : Sn w S B (l ++ [q]) v' w7 := by
  refine ⟨?_, fun y hy => ?_⟩
  · rw [List.length_append, List.flatMap_append]
    simpa using ho
  · rcases List.mem_append.1 hy with hy | hy
    · exact h.kids y hy
    · rw [List.mem_singleton.1 hy]; exact hq
theorem PtP.of {w : World} {S : Nat → Prop} {g o : Nat} : ∀ {p : Pt}, S g → w.cell? ⟨g, o, none⟩ = some (.int .i64 p.kind) → w.cell? ⟨g, o + 1, none⟩ = some (.string ⟨p.name.toArray⟩) → w.cell? ⟨g, o + 2, none⟩ = some (.int .i64 p.num) → p.name.length < 140737488355328 → p.kids.length < 140737488355328 → ∀ {v : Value}, w.cell? ⟨g, o + 3, none⟩ = some v → Pats w S v p.kids → PtP w S g o p
  | ⟨0, t⟩ => t.elim
  | ⟨d + 1, t⟩ => fun h0 h1 h2 h3 h4 h5 v h6 h7 => by
    have e : (Pt.kids ⟨d + 1, t⟩) = t.2.map fun u => (⟨d, u⟩ : Pt) := rfl
    rw [e] at h5 h7
    rw [List.length_map] at h5
    refine ⟨h0, h1, h2, h3, h4, h5, v, h6, ?_⟩
    rcases h7 with ⟨q1, q2⟩ | ⟨g', o', cap, q1, q2, q3, q4⟩
    · exact .inl ⟨List.map_eq_nil_iff.1 q1, q2⟩
    · rw [List.length_map] at q1 q3
      refine .inr ⟨g', o', cap, q1, fun z => q2 (by rw [z]; rfl), q3, fun j hj => ?_⟩
      have := q4 j (by rw [List.length_map]; exact hj)
      rw [List.getElem_map] at this
      exact this
theorem Sn.pats {w : World} {S : Nat → Prop} {B : Nat} {l : List Cq4} {v : Value} {wr : World} (h : Sn w S B l v wr) (hb : Below w.heap.size w wr) (hS : ∀ b, S b → b < w.heap.size) : Pats wr (fun y => y < wr.heap.size) v (l.map (·.1)) := by
  obtain ⟨_, ⟨h1, h2⟩ | ⟨g, cap, cur, rfl, h3⟩⟩ := h.own
  · exact .inl ⟨by rw [List.eq_nil_of_length_eq_zero h2]; rfl, none, 0, h1⟩
  · by_cases e : l = []
    · exact .inl ⟨by rw [e]; rfl, _, _, by rw [e]; rfl⟩
    · have hlt := h.own.lt g rfl
      refine .inr ⟨g, 0, cap, by rw [List.length_map], fun e' => e (List.map_eq_nil_iff.1 e'), ?_, fun j hj => ?_⟩
      · rw [List.length_map]
        exact h3.2.2.1
      · rw [List.length_map] at hj
        rw [List.getElem_map]
        obtain ⟨k1, k2, k3⟩ := h.kids l[j] (List.getElem_mem hj)
        have hc : ∀ c, c < 4 → wr.cell? ⟨g, 0 + j * 4 + c, none⟩ = (cpC l[j])[c]? := fun c hc => by
          rw [← cpC_get l j c hj hc, Nat.zero_add]
          exact h.own.cellAt (j * 4 + c) (by omega)
        exact PtP.of hlt.2 (hc 0 (by omega)) (hc 1 (by omega)) (hc 2 (by omega)) k1 k2 (hc 3 (by omega)) ((k3.on (Keeps.of hb hS)).up fun y hy => by have := hS y hy; have := hb.size; omega)
/-- What the first loop asks of a pattern. -/
def Cnd (k : Kn) (v p : Pt) : Prop := (p.kind = 3 → v.kind = 3 ∧ -4611686018427387904 ≤ v.num ∧ v.num ≤ 4611686018427387903) ∧ (p.kind = 4 → v.kind = 4 ∧ ∃ e f, look k p.name = some e ∧ look k v.name = some f ∧ e.1 = f.1 ∧ v.kids.length = f.2.2)
def SuitsPost (k : Kn) (v : Pt) (ps : List Pt) (w : World) (r : Ending) (w' : World) : Prop := Below w.heap.size w w' ∧ ∃ b, r = .returned (.bool b) ∧ (b = true → Suit k v ps)
def SuitsC (fs : List Fam) (k : Kn) (v : Pt) (ps : List Pt) : Prop := ∀ (w : World) (S : Nat → Prop) (fa : Option Addr) (fc : Nat) (a x : Value), (∀ b, S b → b < w.heap.size) → Fams w S (.slice fa fs.length fc) fs → Pats w S a ps → PtV w S x v → Calls Try.prog 9 #[.slice fa fs.length fc, a, x] w (SuitsPost k v ps w)
end Go.Proofs.Ytpdmkhnonbbhnaa
