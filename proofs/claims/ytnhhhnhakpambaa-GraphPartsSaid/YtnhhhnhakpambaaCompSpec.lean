/- What the components are: the classes of nodes with one leader, in the order of their least nodes. Of no program. -/
import Derived.Test.YtnhhhnhakpambaaKosa
namespace Go.Proofs.Ytnhhhnhakpambaa

def lead (M : List Nat) (n : Nat) : Nat := M[n]?.getD 0
def isFst (M : List Nat) (n : Nat) : Bool := (List.range n).all fun m => decide (lead M m ≠ lead M n)
def firsts (M : List Nat) (K : Nat) : List Nat := (List.range K).filter (isFst M)
def cls (M : List Nat) (K f : Nat) : List Nat := (List.range K).filter fun m => decide (lead M m = lead M f)
def compS (M : List Nat) (K : Nat) : List (List Nat) := (firsts M K).map (cls M K)
theorem isFst_iff {M : List Nat} {n : Nat} : isFst M n = true ↔ ∀ m, m < n → lead M m ≠ lead M n := by
  unfold isFst
  rw [List.all_eq_true]
  simp only [List.mem_range, decide_eq_true_eq]
theorem firsts_mem {M : List Nat} {K f : Nat} : f ∈ firsts M K ↔ f < K ∧ ∀ m, m < f → lead M m ≠ lead M f := by
  unfold firsts
  rw [List.mem_filter, List.mem_range, isFst_iff]
theorem firsts_inj {M : List Nat} {K f f' : Nat} (h : f ∈ firsts M K) (h' : f' ∈ firsts M K) (e : lead M f = lead M f') : f = f' := by
  have h1 := (firsts_mem.1 h).2
  have h2 := (firsts_mem.1 h').2
  rcases Nat.lt_trichotomy f f' with h3 | h3 | h3
  · exact absurd e (h2 f h3)
  · exact h3
  · exact absurd e.symm (h1 f' h3)
theorem firsts_nodup (M : List Nat) (K : Nat) : (firsts M K).Nodup := List.Nodup.sublist List.filter_sublist List.nodup_range
theorem cls_next (M : List Nat) (K f : Nat) : cls M (K + 1) f = if lead M K = lead M f then cls M K f ++ [K] else cls M K f := by
  unfold cls
  rw [List.range_succ, List.filter_append]
  by_cases h : lead M K = lead M f <;> simp [h]
structure CSpec (M : List Nat) (N K : Nat) (s : List (List Nat) × List Int) : Prop where
  parts : s.1 = compS M K
  len : s.2.length = N
  at_ : ∀ l, (dat s.2 l = -1 ∧ ∀ n, n < K → lead M n ≠ l) ∨ ∃ (i : Nat) (f : Nat), dat s.2 l = i ∧ (firsts M K)[i]? = some f ∧ lead M f = l
theorem cspec_start (M : List Nat) (N : Nat) : CSpec M N 0 ([], List.replicate N (-1)) :=
  ⟨rfl, by simp, fun l => .inl ⟨dat_repl _ l, fun n hn => by omega⟩⟩
theorem CSpec.step {M : List Nat} {N K : Nat} {s : List (List Nat) × List Int} (h : CSpec M N K s) (hM : lead M K < N) : CSpec M N (K + 1) (cstep M s K) := by
  have hfl : (firsts M K).length = s.1.length := by rw [h.parts]; simp [compS]
  unfold cstep
  show CSpec M N (K + 1) (if dat s.2 (lead M K) = -1 then (s.1 ++ [[K]], s.2.set (lead M K) s.1.length) else (s.1.set (dat s.2 (lead M K)).toNat (row s.1 (dat s.2 (lead M K)).toNat ++ [K]), s.2))
  split
  · rename_i hd
    have hno : ∀ n, n < K → lead M n ≠ lead M K := by
      rcases h.at_ (lead M K) with ⟨_, h1⟩ | ⟨i, f, h1, _, _⟩
      · exact h1
      · omega
    have hf : firsts M (K + 1) = firsts M K ++ [K] := by
      unfold firsts
      rw [List.range_succ, List.filter_append]
      have : isFst M K = true := isFst_iff.2 hno
      simp [this]
    refine ⟨?_, by simp [h.len], fun l => ?_⟩
    · show s.1 ++ [[K]] = compS M (K + 1)
      unfold compS
      rw [hf, List.map_append, h.parts]
      congr 1
      · unfold compS
        refine List.map_congr_left fun f hf => ?_
        rw [cls_next, if_neg (fun e => hno f (firsts_mem.1 hf).1 e.symm)]
      · rw [List.map_singleton, cls_next, if_pos rfl]
        have : cls M K K = [] := by
          unfold cls
          rw [List.filter_eq_nil_iff]
          intro m hm
          simpa using hno m (List.mem_range.1 hm)
        rw [this]; rfl
    · show (dat (s.2.set (lead M K) s.1.length) l = -1 ∧ _) ∨ _
      rw [dat_set (by rw [h.len]; exact hM)]
      by_cases e : l = lead M K
      · rw [if_pos e]
        exact .inr ⟨s.1.length, K, rfl, by rw [hf, ← hfl]; simp, e.symm⟩
      · rw [if_neg e]
        rcases h.at_ l with ⟨h1, h2⟩ | ⟨i, f, h1, h2, h3⟩
        · refine .inl ⟨h1, fun n hn => ?_⟩
          by_cases e2 : n = K
          · subst e2; exact fun e3 => e e3.symm
          · exact h2 n (by omega)
        · refine .inr ⟨i, f, h1, ?_, h3⟩
          rw [hf, List.getElem?_append_left (List.getElem?_eq_some_iff.1 h2).1]
          exact h2
  · rename_i hd
    obtain ⟨i, f, h1, h2, h3⟩ : ∃ (i : Nat) (f : Nat), dat s.2 (lead M K) = i ∧ (firsts M K)[i]? = some f ∧ lead M f = lead M K := by
      rcases h.at_ (lead M K) with ⟨h1, _⟩ | h1
      · exact absurd h1 hd
      · exact h1
    have hi : i < (firsts M K).length := (List.getElem?_eq_some_iff.1 h2).1
    have hfm : f ∈ firsts M K := List.mem_of_getElem? h2
    have hf : firsts M (K + 1) = firsts M K := by
      unfold firsts
      rw [List.range_succ, List.filter_append]
      have : isFst M K = false := by
        rw [Bool.eq_false_iff]
        intro e
        exact isFst_iff.1 e f (firsts_mem.1 hfm).1 h3
      simp [this]
    refine ⟨?_, h.len, fun l => ?_⟩
    · show s.1.set (dat s.2 (lead M K)).toNat _ = compS M (K + 1)
      rw [h1, Int.toNat_natCast]
      refine List.ext_getElem? fun j => ?_
      rw [List.getElem?_set]
      unfold compS
      rw [hf, List.getElem?_map]
      by_cases e : i = j
      · subst e
        rw [if_pos rfl, if_pos (by omega), h2]
        show some (row s.1 i ++ [K]) = some (cls M (K + 1) f)
        rw [cls_next, if_pos h3.symm]
        congr 2
        unfold row
        rw [h.parts]; unfold compS
        rw [List.getElem?_map, h2]; rfl
      · rw [if_neg e, h.parts]; unfold compS
        rw [List.getElem?_map]
        cases hj : (firsts M K)[j]? with
        | none => rfl
        | some f' =>
          show some (cls M K f') = some (cls M (K + 1) f')
          rw [cls_next, if_neg]
          intro e2
          have e3 := firsts_inj hfm (List.mem_of_getElem? hj) (h3.trans e2)
          subst e3
          exact e ((List.getElem?_inj hi (firsts_nodup M K)).1 (h2.trans hj.symm))
    · rcases h.at_ l with ⟨h4, h5⟩ | ⟨i', f', h4, h5, h6⟩
      · refine .inl ⟨h4, fun n hn => ?_⟩
        by_cases e2 : n = K
        · subst e2
          intro e3
          exact h5 f (firsts_mem.1 hfm).1 (h3.trans e3)
        · exact h5 n (by omega)
      · exact .inr ⟨i', f', h4, by rw [hf]; exact h5, h6⟩
theorem cspec_fold {M : List Nat} {N : Nat} (hM : ∀ k, k < N → lead M k < N) : ∀ K, K ≤ N → CSpec M N K ((List.range K).foldl (cstep M) ([], List.replicate N (-1)))
  | 0, _ => cspec_start M N
  | K + 1, hK => by
    rw [comps_next M N K _ rfl]
    exact (cspec_fold hM K (by omega)).step (hM K (by omega))
theorem compsM_spec {M : List Nat} {N : Nat} (hM : ∀ k, k < N → lead M k < N) : compsM N M = compS M N := (cspec_fold hM N (Nat.le_refl _)).parts
/-- The number of a node's component. -/
def partOf (M : List Nat) (N n : Nat) : Nat := (firsts M N).idxOf ((List.range N).find? (fun m => decide (lead M m = lead M n)) |>.getD 0)
theorem first_of (M : List Nat) {N n : Nat} (hn : n < N) : ∃ f, f ∈ firsts M N ∧ lead M f = lead M n ∧ (List.range N).find? (fun m => decide (lead M m = lead M n)) = some f := by
  cases hf : (List.range N).find? (fun m => decide (lead M m = lead M n)) with
  | none =>
    rw [List.find?_eq_none] at hf
    exact absurd (decide_eq_true rfl) (hf n (List.mem_range.2 hn))
  | some f =>
    obtain ⟨h1, l1, l2, h2, h3⟩ := List.find?_eq_some_iff_append.1 hf
    have h1' : lead M f = lead M n := by simpa using h1
    have hfN : f < N := by
      have : f ∈ List.range N := by rw [h2]; simp
      exact List.mem_range.1 this
    refine ⟨f, firsts_mem.2 ⟨hfN, fun m hm => ?_⟩, h1', rfl⟩
    have hma : m ∈ l1 := by
      have hmem : m ∈ List.range N := List.mem_range.2 (by omega)
      have hp : (List.range N).Pairwise (· < ·) := List.pairwise_lt_range
      rw [h2] at hmem hp
      rcases List.mem_append.1 hmem with h4 | h4
      · exact h4
      · rw [List.pairwise_append] at hp
        rcases List.mem_cons.1 h4 with rfl | h4
        · omega
        · have := (List.pairwise_cons.1 hp.2.1).1 m h4; omega
    have := h3 m hma
    rw [h1']
    simpa using this
theorem partOf_spec (M : List Nat) {N n : Nat} (hn : n < N) : ∃ f, (firsts M N)[partOf M N n]? = some f ∧ lead M f = lead M n := by
  obtain ⟨f, h1, h2, h3⟩ := first_of M hn
  refine ⟨f, ?_, h2⟩
  unfold partOf
  rw [h3]
  show (firsts M N)[(firsts M N).idxOf f]? = some f
  rw [List.getElem?_eq_getElem (List.idxOf_lt_length_of_mem h1), List.getElem_idxOf]
theorem partOf_lt (M : List Nat) {N n : Nat} (hn : n < N) : partOf M N n < (compS M N).length := by
  obtain ⟨f, h1, _⟩ := partOf_spec M hn
  have := (List.getElem?_eq_some_iff.1 h1).1
  simpa [compS] using this
theorem partOf_eq (M : List Nat) {N x y : Nat} (hx : x < N) (hy : y < N) : partOf M N x = partOf M N y ↔ lead M x = lead M y := by
  obtain ⟨f, h1, h2⟩ := partOf_spec M hx
  obtain ⟨f', h3, h4⟩ := partOf_spec M hy
  constructor
  · intro e
    rw [e, h3] at h1
    cases h1
    exact h2.symm.trans h4
  · intro e
    unfold partOf
    rw [e]
theorem mem_comp (M : List Nat) {N i n : Nat} : n ∈ row (compS M N) i ↔ n < N ∧ partOf M N n = i := by
  unfold row compS
  rw [List.getElem?_map]
  constructor
  · intro h
    cases hf : (firsts M N)[i]? with
    | none => rw [hf] at h; cases h
    | some f =>
      rw [hf] at h
      have h' : n ∈ cls M N f := h
      unfold cls at h'
      rw [List.mem_filter, List.mem_range, decide_eq_true_eq] at h'
      refine ⟨h'.1, ?_⟩
      obtain ⟨f', h1, h2⟩ := partOf_spec M h'.1
      have e := firsts_inj (List.mem_of_getElem? hf) (List.mem_of_getElem? h1) (h'.2.symm.trans h2.symm)
      subst e
      exact (List.getElem?_inj (List.getElem?_eq_some_iff.1 h1).1 (firsts_nodup M N)).1 (h1.trans hf.symm)
  · rintro ⟨hn, rfl⟩
    obtain ⟨f, h1, h2⟩ := partOf_spec M hn
    rw [h1]
    show n ∈ cls M N f
    unfold cls
    rw [List.mem_filter, List.mem_range, decide_eq_true_eq]
    exact ⟨hn, h2.symm⟩
end Go.Proofs.Ytnhhhnhakpambaa
