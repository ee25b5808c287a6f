/- Topological orders and ways around; the graph of the components has none. Of no program but Condense's list of edges. -/
import Derived.Test.YtnhhhnhakpambaaCond
import Derived.Test.YtnhhhnhakpambaaGraphOrdM
namespace Go.Proofs.Ytnhhhnhakpambaa
open Go.RowKit

/-- A way around. -/
def Cyc (g : List (List Nat)) : Prop := ∃ x y, y ∈ row g x ∧ Rea g y x
theorem count_lt {p q : Nat → Bool} : ∀ l : List Nat, (∀ x ∈ l, p x = true → q x = true) → (∃ x ∈ l, q x = true ∧ p x = false) → l.countP p < l.countP q
  | [], _, ⟨x, hx, _⟩ => by cases hx
  | a :: l, h, ⟨x, hx, hq, hp⟩ => by
    have hm : l.countP p ≤ l.countP q := List.countP_mono_left fun x hx hp => h x (List.mem_cons_of_mem _ hx) hp
    rcases List.mem_cons.1 hx with rfl | hx
    · rw [List.countP_cons_of_pos hq, List.countP_cons_of_neg (by simp [hp])]; omega
    · have ih := count_lt l (fun x hx => h x (List.mem_cons_of_mem _ hx)) ⟨x, hx, hq, hp⟩
      by_cases ha : p a = true
      · rw [List.countP_cons_of_pos ha, List.countP_cons_of_pos (h a (by simp) ha)]; omega
      · rw [List.countP_cons_of_neg ha]
        by_cases hb : q a = true
        · rw [List.countP_cons_of_pos hb]; omega
        · rw [List.countP_cons_of_neg hb]; exact ih
noncomputable def anc (g : List (List Nat)) (i : Nat) : Nat := (List.range g.length).countP fun x => @decide (Rea g x i) (Classical.propDecidable _)
theorem anc_lt {g : List (List Nat)} (hc : ¬ Cyc g) {m i : Nat} (hi : i < g.length) (he : i ∈ row g m) : anc g m < anc g i := by
  refine count_lt _ (fun x _ hx => ?_) ⟨i, List.mem_range.2 hi, ?_, ?_⟩
  · have h1 := @of_decide_eq_true _ (Classical.propDecidable _) hx
    exact @decide_eq_true _ (Classical.propDecidable _) (h1.step he)
  · exact @decide_eq_true _ (Classical.propDecidable _) (Rea.refl g i)
  · exact @decide_eq_false _ (Classical.propDecidable _) (fun h => hc ⟨m, i, he, h⟩)
/-- Where no node may come next, and not all are listed, there is a way around. -/
theorem stuck_cyc {g : List (List Nat)} {out : List Nat} (hn : nxtO g out = none) {i : Nat} (hi : i < g.length) (ho : i ∉ out) : Cyc g := by
  refine Classical.byContradiction fun hc => ?_
  have hall : ∀ j, j < g.length → cand g out j = false := by
    unfold nxtO at hn
    rw [List.find?_eq_none] at hn
    intro j hj
    simpa using hn j (List.mem_range.2 hj)
  have : ∀ c j, j < g.length → j ∉ out → anc g j ≤ c → False := by
    intro c
    induction c with
    | zero =>
      intro j hj hjo ha
      obtain ⟨m, hm, _⟩ : ∃ m, j ∈ row g m ∧ m ∉ out := by
        refine Classical.byContradiction fun hh => ?_
        have := (cand_iff g out j).2 ⟨hjo, fun m hm => Classical.byContradiction fun hmo => hh ⟨m, hm, hmo⟩⟩
        rw [hall j hj] at this; cases this
      have := anc_lt hc hj hm
      omega
    | succ c ih =>
      intro j hj hjo ha
      obtain ⟨m, hm, hmo⟩ : ∃ m, j ∈ row g m ∧ m ∉ out := by
        refine Classical.byContradiction fun hh => ?_
        have := (cand_iff g out j).2 ⟨hjo, fun m hm => Classical.byContradiction fun hmo => hh ⟨m, hm, hmo⟩⟩
        rw [hall j hj] at this; cases this
      have := anc_lt hc hj hm
      exact ih m (row_lt hm) hmo (by omega)
  exact this _ i hi ho (Nat.le_refl _)
theorem ord_none {g : List (List Nat)} : ∀ (k : Nat) (out : List Nat), out.length + k = g.length → out.Nodup → (∀ x ∈ out, x < g.length) → ordM g k out = none → Cyc g
  | 0, out, _, _, _, h => by cases h
  | k + 1, out, hl, hnd, hlt, h => by
    unfold ordM at h
    cases hx : nxtO g out with
    | none =>
      obtain ⟨i, hi, ho⟩ : ∃ i, i < g.length ∧ i ∉ out := by
        refine Classical.byContradiction fun hh => ?_
        have hsub : ∀ i, i < g.length → i ∈ out := fun i hi => Classical.byContradiction fun ho => hh ⟨i, hi, ho⟩
        have h1 : (List.range g.length).countP (fun x => decide (x ∈ out)) = g.length := by
          have h2 : (List.range g.length).countP (fun x => decide (x ∈ out)) = (List.range g.length).length := by
            rw [List.countP_eq_length]
            intro x hx
            simpa using hsub x (List.mem_range.1 hx)
          rwa [List.length_range] at h2
        have h3 : ∀ (l r : List Nat), r.Nodup → (r.countP fun x => decide (x ∈ l)) ≤ l.length := by
          intro l
          induction l with
          | nil => intro r _; simp
          | cons a l ih =>
            intro r hr
            have h4 := ih (r.erase a) (hr.sublist List.erase_sublist)
            have h5 : (r.countP fun x => decide (x ∈ a :: l)) ≤ ((r.erase a).countP fun x => decide (x ∈ l)) + 1 := by
              by_cases ha : a ∈ r
              · have hp := List.perm_cons_erase ha
                rw [hp.countP_eq, List.countP_cons_of_pos (by simp)]
                have : (r.erase a).countP (fun x => decide (x ∈ a :: l)) ≤ (r.erase a).countP (fun x => decide (x ∈ l)) := by
                  refine List.countP_mono_left fun x hx hq => ?_
                  have hxa : x ≠ a := fun e => by subst e; exact (hr.mem_erase_iff.1 hx).1 rfl
                  simpa [hxa] using hq
                omega
              · have : r.countP (fun x => decide (x ∈ a :: l)) ≤ (r.erase a).countP (fun x => decide (x ∈ l)) := by
                  rw [List.erase_of_not_mem ha]
                  refine List.countP_mono_left fun x hx hq => ?_
                  have hxa : x ≠ a := fun e => by subst e; exact ha hx
                  simpa [hxa] using hq
                omega
            simp only [List.length_cons]; omega
        have := h3 out (List.range g.length) List.nodup_range
        omega
      exact stuck_cyc hx hi ho
    | some x =>
      rw [hx] at h
      obtain ⟨h1, h2, _⟩ := nxtO_some hx
      have hxo := ((cand_iff g out x).1 h2).1
      refine ord_none k (out ++ [x]) (by rw [List.length_append, List.length_singleton]; omega) ?_ ?_ h
      · rw [List.nodup_append]
        exact ⟨hnd, by simp, fun a ha b hb => by simp at hb; subst hb; rintro rfl; exact hxo ha⟩
      · intro y hy
        rcases List.mem_append.1 hy with h3 | h3
        · exact hlt y h3
        · simp at h3; subst h3; exact h1
theorem IsOrd.rea {g : List (List Nat)} (hg : VG g) {l : List Nat} (h : IsOrd g l) : ∀ (k : Nat) {x z : Nat} (_ : RchN g [x] k z) {a b : Nat}, l[a]? = some x → l[b]? = some z → a ≤ b
  | 0, x, z, hr, a, b, ha, hb => by
    have e : z = x := by simpa [RchN] using hr
    subst e
    have := (List.getElem?_inj (List.getElem?_eq_some_iff.1 ha).1 h.nodup).1 (ha.trans hb.symm)
    omega
  | k + 1, x, z, ⟨u, hu, e⟩, a, b, ha, hb => by
    obtain ⟨c, hc, e2⟩ := List.getElem_of_mem (h.all u (row_lt e))
    have hc2 : l[c]? = some u := by rw [← e2]; exact List.getElem?_eq_getElem hc
    have h1 := IsOrd.rea hg h k hu ha hc2
    have h2 := h.edge c b u z hc2 hb e
    omega
theorem ord_some {g : List (List Nat)} (hg : VG g) {l : List Nat} (h : IsOrd g l) : ¬ Cyc g := by
  rintro ⟨x, y, he, k, hk⟩
  obtain ⟨a, ha, e1⟩ := List.getElem_of_mem (h.all x (row_lt he))
  obtain ⟨b, hb, e2⟩ := List.getElem_of_mem (h.all y (hg.node x y he))
  have ha2 : l[a]? = some x := by rw [← e1]; exact List.getElem?_eq_getElem ha
  have hb2 : l[b]? = some y := by rw [← e2]; exact List.getElem?_eq_getElem hb
  have h1 := h.edge a b x y ha2 hb2 he
  have h2 := IsOrd.rea hg h k hk hb2 ha2
  omega
theorem ord_cyc {g : List (List Nat)} (hg : VG g) : ordM g g.length [] = none ↔ Cyc g := by
  constructor
  · exact ord_none g.length [] (by simp) (by simp) (by simp)
  · intro hc
    cases h : ordM g g.length [] with
    | none => rfl
    | some l => exact absurd hc (ord_some hg (ordM_ord h))
theorem foldE_mem : ∀ (es : List (Nat × Nat)) (g : List (List Nat)) (a b : Nat), (∀ e ∈ es, e.1 < g.length) → (b ∈ row (es.foldl withE g) a ↔ b ∈ row g a ∨ (a, b) ∈ es)
  | [], g, a, b, _ => by simp
  | e :: r, g, a, b, h => by
    rw [List.foldl_cons, foldE_mem r (withE g e) a b (fun x hx => by rw [withE_len]; exact h x (by simp [hx])), row_withE g e (h e (by simp))]
    by_cases ha : a = e.1
    · rw [if_pos ha, rwith_mem, List.mem_cons, ← ha]
      constructor
      · rintro ((h1 | h1) | h1)
        · exact .inl h1
        · exact .inr (.inl (by rw [h1, ha]))
        · exact .inr (.inr h1)
      · rintro (h1 | h1 | h1)
        · exact .inl (.inl h1)
        · exact .inl (.inr (by rw [← h1]))
        · exact .inr h1
    · rw [if_neg ha, List.mem_cons]
      constructor
      · rintro (h1 | h1)
        · exact .inl h1
        · exact .inr (.inr h1)
      · rintro (h1 | h1 | h1)
        · exact .inl h1
        · exact absurd (by rw [← h1]) ha
        · exact .inr h1
theorem edC_mem {g : List (List Nat)} (hg : VG g) {M : List Nat} {a b : Nat} : b ∈ row (edC g M) a ↔ ∃ n y, y ∈ row g n ∧ partOf M g.length n ≠ partOf M g.length y ∧ a = partOf M g.length n ∧ b = partOf M g.length y := by
  unfold edC edM
  rw [foldE_mem _ _ _ _ (fun e he => by rw [List.length_replicate]; exact (edC_ok hg e he).1)]
  have hr : row (List.replicate (compS M g.length).length ([] : List Nat)) a = [] := by
    unfold row
    rw [List.getElem?_replicate]
    split <;> rfl
  rw [hr, edE_mem]
  constructor
  · rintro (h | ⟨n, y, _, hy, hp, e⟩)
    · cases h
    · simp only [Prod.mk.injEq] at e
      exact ⟨n, y, hy, hp, e.1, e.2⟩
  · rintro ⟨n, y, hy, hp, rfl, rfl⟩
    exact .inr ⟨n, y, row_lt hy, hy, hp, rfl⟩
theorem edC_vg {g : List (List Nat)} (hg : VG g) (M : List Nat) : VG (edC g M) := edM_vg (Nat.le_trans (compS_len M _) hg.len) (edC_ok hg)
theorem edC_len (g : List (List Nat)) (M : List Nat) : (edC g M).length = (compS M g.length).length := edM_len _ _
theorem part_mut {g : List (List Nat)} (hg : VG g) {M : List Nat} (hM : LdM g M) {x y : Nat} (hx : x < g.length) (hy : y < g.length) : partOf M g.length x = partOf M g.length y ↔ Rea g x y ∧ Rea g y x := by
  rw [partOf_eq M hx hy, hM.scc hg hx hy]
theorem edC_lift {g : List (List Nat)} (hg : VG g) {M : List Nat} (hM : LdM g M) : ∀ (k : Nat) {c u : Nat}, u < g.length → RchN (edC g M) [partOf M g.length u] k c → ∃ v, v < g.length ∧ partOf M g.length v = c ∧ Rea g u v
  | 0, c, u, hu, h => by
    have e : c = partOf M g.length u := by simpa [RchN] using h
    exact ⟨u, hu, e.symm, Rea.refl g u⟩
  | k + 1, c, u, hu, ⟨w, hw, e⟩ => by
    obtain ⟨v, hv, h1, h2⟩ := edC_lift hg hM k hu hw
    obtain ⟨n, y, hy, _, rfl, rfl⟩ := (edC_mem hg).1 e
    have hn := row_lt hy
    have := (part_mut hg hM hv hn).1 h1
    exact ⟨y, hg.node n y hy, rfl, (h2.trans this.1).step hy⟩
/-- The graph of the components has no way around. -/
theorem edC_acyc {g : List (List Nat)} (hg : VG g) {M : List Nat} (hM : LdM g M) : ¬ Cyc (edC g M) := by
  rintro ⟨a, b, he, k, hk⟩
  obtain ⟨n, y, hy, hne, rfl, rfl⟩ := (edC_mem hg).1 he
  have hn := row_lt hy
  have hyl := hg.node n y hy
  obtain ⟨v, hv, h1, h2⟩ := edC_lift hg hM k hyl hk
  have h3 := (part_mut hg hM hv hn).1 h1
  exact hne ((part_mut hg hM hn hyl).2 ⟨Rea.edge hy, h2.trans h3.1⟩)
/-- Every component has one node, and no node is its own successor. -/
def Single (g : List (List Nat)) (M : List Nat) : Prop := (∀ i, i < (compS M g.length).length → (row (compS M g.length) i).length = 1) ∧ ∀ i, i < g.length → i ∉ row g i
theorem comp_nodup (M : List Nat) (N i : Nat) : (row (compS M N) i).Nodup := by
  unfold row compS
  rw [List.getElem?_map]
  cases (firsts M N)[i]? with
  | none => exact List.nodup_nil
  | some f => exact List.Nodup.sublist List.filter_sublist List.nodup_range
theorem single_cyc {g : List (List Nat)} (hg : VG g) {M : List Nat} (hM : LdM g M) : Single g M ↔ ¬ Cyc g := by
  constructor
  · rintro ⟨h1, h2⟩ ⟨x, y, he, hr⟩
    have hx := row_lt he
    have hy := hg.node x y he
    by_cases e : x = y
    · subst e; exact h2 x hx he
    · have hp := (part_mut hg hM hx hy).2 ⟨Rea.edge he, hr⟩
      have m1 := (mem_comp M).2 ⟨hx, rfl⟩
      have m2 := (mem_comp M).2 ⟨hy, hp.symm⟩
      have hl := h1 _ (partOf_lt M hx)
      match hrow : row (compS M g.length) (partOf M g.length x), hl with
      | [z], _ =>
        rw [hrow] at m1 m2
        simp at m1 m2
        exact e (m1.trans m2.symm)
  · intro hc
    refine ⟨fun i hi => ?_, fun i _ he => hc ⟨i, i, he, Rea.refl g i⟩⟩
    have hnd := comp_nodup M g.length i
    have hne : row (compS M g.length) i ≠ [] := by
      have hif : i < (firsts M g.length).length := by simpa [compS] using hi
      have hf := firsts_mem.1 (List.getElem_mem hif)
      obtain ⟨f', h1, h2⟩ := partOf_spec M hf.1
      have e := firsts_inj (List.mem_of_getElem? h1) (List.getElem_mem hif) h2
      have hp : partOf M g.length (firsts M g.length)[i] = i := by
        refine (List.getElem?_inj (List.getElem?_eq_some_iff.1 h1).1 (firsts_nodup M g.length)).1 ?_
        rw [h1, e, List.getElem?_eq_getElem hif]
      intro h0
      have := (mem_comp M).2 ⟨hf.1, hp⟩
      rw [h0] at this; cases this
    match hrow : row (compS M g.length) i with
    | [] => exact absurd hrow hne
    | [z] => rfl
    | x :: y :: r =>
      exfalso
      rw [hrow] at hnd
      have hxy : x ≠ y := fun e => by subst e; simp at hnd
      have m1 := (mem_comp M (i := i) (n := x)).1 (by rw [hrow]; simp)
      have m2 := (mem_comp M (i := i) (n := y)).1 (by rw [hrow]; simp)
      obtain ⟨⟨k, hk⟩, h2⟩ := (part_mut hg hM m1.1 m2.1).1 (m1.2.trans m2.2.symm)
      match k, hk with
      | 0, hk =>
        have e : y = x := by simpa [RchN] using hk
        exact hxy e.symm
      | k + 1, ⟨u, hu, e⟩ => exact hc ⟨u, y, e, h2.trans ⟨k, hu⟩⟩
end Go.Proofs.Ytnhhhnhakpambaa
