/- The search in depth: what the order in which it leaves the nodes tells of reachability. Of no program. -/
import Derived.Test.YtnhhhnhakpambaaGraphComp
import Derived.Test.YtnhhhnhakpambaaGraphCloM
namespace Go.Proofs.Ytnhhhnhakpambaa

def Rea (g : List (List Nat)) (a b : Nat) : Prop := ∃ k, RchN g [a] k b
theorem Rea.refl (g : List (List Nat)) (a : Nat) : Rea g a a := ⟨0, by simp [RchN]⟩
theorem Rea.step {g : List (List Nat)} {a b c : Nat} (h : Rea g a b) (e : c ∈ row g b) : Rea g a c := by
  obtain ⟨k, hk⟩ := h
  exact ⟨k + 1, b, hk, e⟩
theorem Rea.edge {g : List (List Nat)} {a b : Nat} (e : b ∈ row g a) : Rea g a b := (Rea.refl g a).step e
theorem Rea.trans {g : List (List Nat)} {a b c : Nat} (h : Rea g a b) (k : Rea g b c) : Rea g a c := by
  obtain ⟨m, hm⟩ := k
  exact RchN.comp (fun x hx => by simp at hx; subst hx; exact h) hm
/-- A way on which all nodes are of B. -/
inductive BB (g : List (List Nat)) (B : List Nat) (v : Nat) : Nat → Prop
  | refl : v ∈ B → BB g B v v
  | step {u w : Nat} : BB g B v u → w ∈ row g u → w ∈ B → BB g B v w
theorem BB.mem {g : List (List Nat)} {B : List Nat} {v u : Nat} (h : BB g B v u) : u ∈ B := by cases h <;> assumption
theorem BB.rea {g : List (List Nat)} {B : List Nat} {v u : Nat} (h : BB g B v u) : Rea g v u := by
  induction h with
  | refl _ => exact Rea.refl g v
  | step _ e _ ih => exact ih.step e
def BP (g : List (List Nat)) (B : List Nat) (v z : Nat) : Prop := ∃ u, BB g B v u ∧ z ∈ row g u
theorem BP.rea {g : List (List Nat)} {B : List Nat} {v z : Nat} (h : BP g B v z) : Rea g v z := by
  obtain ⟨u, hu, e⟩ := h
  exact hu.rea.step e
theorem bb_or {g : List (List Nat)} {B : List Nat} {v : Nat} (hv : v ∈ B) : ∀ {k u : Nat}, RchN g [v] k u → (∃ z, z ∉ B ∧ BP g B v z) ∨ BB g B v u
  | 0, u, h => by
    have e : u = v := by simpa [RchN] using h
    subst e
    exact .inr (.refl hv)
  | k + 1, u, ⟨u', h, e⟩ => by
    rcases bb_or hv h with h1 | h1
    · exact .inl h1
    · by_cases hu : u ∈ B
      · exact .inr (h1.step e hu)
      · exact .inl ⟨u, hu, u', h1, e⟩
theorem bp_out {g : List (List Nat)} {B : List Nat} {v n : Nat} (hv : v ∈ B) (hn : n ∉ B) (h : Rea g v n) : ∃ z, z ∉ B ∧ BP g B v z := by
  obtain ⟨k, hk⟩ := h
  rcases bb_or hv hk with h1 | h1
  · exact h1
  · exact absurd h1.mem hn
theorem bb_snoc {g : List (List Nat)} {B : List Nat} {n v u : Nat} (h : BB g (B ++ [n]) v u) : BB g B v u ∨ v = n ∨ BP g B v n := by
  induction h with
  | refl hv =>
    rcases List.mem_append.1 hv with h1 | h1
    · exact .inl (.refl h1)
    · simp at h1; exact .inr (.inl h1)
  | step _ e hw ih =>
    rcases ih with h1 | h1
    · rcases List.mem_append.1 hw with h2 | h2
      · exact .inl (h1.step e h2)
      · simp at h2; subst h2
        exact .inr (.inr ⟨_, h1, e⟩)
    · exact .inr h1
/-- a stands ahead of b. -/
def Bef (l : List Nat) (a b : Nat) : Prop := ∃ i j : Nat, i < j ∧ l[i]? = some a ∧ l[j]? = some b
theorem bef_snoc {l : List Nat} {n a b : Nat} (h : Bef (l ++ [n]) a b) : Bef l a b ∨ (a ∈ l ∧ b = n) := by
  obtain ⟨i, j, hij, ha, hb⟩ := h
  have hj : j < (l ++ [n]).length := (List.getElem?_eq_some_iff.1 hb).1
  rw [List.length_append, List.length_singleton] at hj
  rw [List.getElem?_append_left (by omega)] at ha
  by_cases e : j < l.length
  · rw [List.getElem?_append_left e] at hb
    exact .inl ⟨i, j, hij, ha, hb⟩
  · obtain rfl : j = l.length := by omega
    simp at hb
    exact .inr ⟨List.mem_of_getElem? ha, hb.symm⟩
theorem Bef.snoc {l : List Nat} {a b : Nat} (h : Bef l a b) (n : Nat) : Bef (l ++ [n]) a b := by
  obtain ⟨i, j, hij, ha, hb⟩ := h
  have hi := (List.getElem?_eq_some_iff.1 ha).1
  have hj := (List.getElem?_eq_some_iff.1 hb).1
  exact ⟨i, j, hij, by rw [List.getElem?_append_left hi]; exact ha, by rw [List.getElem?_append_left hj]; exact hb⟩
theorem bef_last {l : List Nat} {a : Nat} (h : a ∈ l) (n : Nat) : Bef (l ++ [n]) a n := by
  obtain ⟨i, hi, rfl⟩ := List.getElem_of_mem h
  exact ⟨i, l.length, hi, by rw [List.getElem?_append_left hi, List.getElem?_eq_getElem hi], by simp⟩
/-- What the search in depth keeps of reachability. -/
structure KInv (g : List (List Nat)) (s : LSt) : Prop where
  tried : ∀ n j x, j < tr s n → (row g n)[j]? = some x → x ∈ s.left ++ s.stack
  edge : ∀ x ∈ s.left, ∀ y ∈ row g x, y ∈ s.left ++ s.stack
  chain : s.stack.Pairwise (Rea g)
  back : ∀ v z, z ∈ s.stack → BP g s.left v z → Rea g z v
  ord : ∀ v n, Bef s.left v n → Rea g v n → Rea g n v ∨ ∃ z, Rea g v z ∧ (z ∈ s.stack ∨ Bef s.left n z)
theorem kinv_init (g : List (List Nat)) : KInv g (linit g.length) := by
  refine ⟨fun n j x hj _ => ?_, fun x hx => by simp [linit] at hx, List.Pairwise.nil, fun v z hz => by simp [linit] at hz, fun v n h => ?_⟩
  · unfold tr linit at hj
    simp only [List.getElem?_replicate] at hj
    split at hj <;> simp at hj
  · obtain ⟨i, j, _, ha, _⟩ := h
    simp [linit] at ha
theorem KInv.skip {g : List (List Nat)} {s : LSt} (h : KInv g s) (hl : LInv g s) {n x : Nat} (hn : n < g.length) (hx : (row g n)[tr s n]? = some x) (hs : x ∈ s.left ++ s.stack) : KInv g { s with tried := s.tried.set n (tr s n + 1) } := by
  refine ⟨fun m j y hj hy => ?_, h.edge, h.chain, h.back, h.ord⟩
  rw [tr_set (by rw [hl.tlen]; exact hn)] at hj
  split at hj
  · rename_i e; subst e
    by_cases hjt : j = tr s m
    · subst hjt
      rw [hx] at hy; cases hy
      exact hs
    · exact h.tried m j y (by omega) hy
  · exact h.tried m j y hj hy
theorem KInv.push {g : List (List Nat)} {s : LSt} (h : KInv g s) (hl : LInv g s) {st : List Nat} {n x : Nat} (hst : s.stack = st ++ [n]) (hn : n < g.length) (hx : (row g n)[tr s n]? = some x) (hs : x ∉ s.left ++ s.stack) :
    KInv g { s with stack := s.stack ++ [x], seen := s.seen.set x true, tried := s.tried.set n (tr s n + 1) } := by
  have hen : x ∈ row g n := List.mem_of_getElem? hx
  have up : ∀ y, y ∈ s.left ++ s.stack → y ∈ s.left ++ (s.stack ++ [x]) := fun y hy => by
    rw [← List.append_assoc]; exact List.mem_append_left _ hy
  refine ⟨fun m j y hj hy => ?_, fun a ha y hy => up y (h.edge a ha y hy), ?_, fun v z hz hb => ?_, fun v m hb hr => ?_⟩
  · rw [tr_set (by rw [hl.tlen]; exact hn)] at hj
    split at hj
    · rename_i e; subst e
      by_cases hjt : j = tr s m
      · subst hjt
        rw [hx] at hy; cases hy
        simp
      · exact up y (h.tried m j y (by omega) hy)
    · exact up y (h.tried m j y hj hy)
  · show (s.stack ++ [x]).Pairwise (Rea g)
    rw [List.pairwise_append]
    refine ⟨h.chain, List.pairwise_singleton _ _, fun a ha b hb => ?_⟩
    simp at hb; subst hb
    rw [hst] at ha
    rcases List.mem_append.1 ha with h1 | h1
    · have hc := h.chain
      rw [hst, List.pairwise_append] at hc
      exact (hc.2.2 a h1 n (by simp)).step hen
    · simp at h1; subst h1
      exact Rea.edge hen
  · rcases List.mem_append.1 hz with h1 | h1
    · exact h.back v z h1 hb
    · simp at h1; subst h1
      obtain ⟨u, hu, e⟩ := hb
      exact absurd (h.edge u hu.mem _ e) hs
  · rcases h.ord v m hb hr with h1 | ⟨z, h1, h2⟩
    · exact .inl h1
    · exact .inr ⟨z, h1, h2.imp (fun h => List.mem_append_left _ h) id⟩
theorem KInv.pop {g : List (List Nat)} {s : LSt} (h : KInv g s) (hl : LInv g s) {st : List Nat} {n : Nat} (hst : s.stack = st ++ [n]) (ht : (row g n).length ≤ tr s n) :
    KInv g { s with left := s.left ++ [n], stack := st } := by
  have hmem : ∀ x, x ∈ s.left ++ s.stack → x ∈ (s.left ++ [n]) ++ st := fun x hx => by
    rw [hst] at hx
    simp only [List.mem_append, List.mem_singleton] at hx ⊢
    rcases hx with h1 | h1 | h1
    · exact .inl (.inl h1)
    · exact .inr h1
    · exact .inl (.inr h1)
  have hch := h.chain
  rw [hst, List.pairwise_append] at hch
  have hnl : n ∉ s.left := fun hm => by
    have := hl.nodup
    rw [List.nodup_append] at this
    exact this.2.2 n hm n (by rw [hst]; simp) rfl
  have hns : n ∈ s.stack := by rw [hst]; simp
  refine ⟨fun m j y hj hy => hmem y (h.tried m j y hj hy), fun a ha y hy => ?_, hch.1, fun v z hz hb => ?_, fun v m hb hr => ?_⟩
  · rcases List.mem_append.1 ha with h1 | h1
    · exact hmem y (h.edge a h1 y hy)
    · simp at h1; subst h1
      obtain ⟨j, hj, rfl⟩ := List.getElem_of_mem hy
      exact hmem _ (h.tried a j _ (by omega) (List.getElem?_eq_getElem hj))
  · obtain ⟨u, hu, e⟩ := hb
    have hzs : z ∈ s.stack := by rw [hst]; exact List.mem_append_left _ hz
    rcases bb_snoc hu with h1 | h1
    · exact h.back v z hzs ⟨u, h1, e⟩
    · have hzn : Rea g z n := hch.2.2 z hz n (by simp)
      rcases h1 with rfl | h1
      · exact hzn
      · exact hzn.trans (h.back v n hns h1)
  · rcases bef_snoc hb with h1 | ⟨h1, rfl⟩
    · rcases h.ord v m h1 hr with h2 | ⟨z, h2, h3⟩
      · exact .inl h2
      · refine .inr ⟨z, h2, ?_⟩
        rcases h3 with h3 | h3
        · rw [hst] at h3
          rcases List.mem_append.1 h3 with h4 | h4
          · exact .inl h4
          · simp at h4; subst h4
            obtain ⟨_, j, _, _, hj⟩ := h1
            exact .inr (bef_last (List.mem_of_getElem? hj) _)
        · exact .inr (h3.snoc n)
    · obtain ⟨z, hz, hb⟩ := bp_out h1 hnl hr
      obtain ⟨u, hu, e⟩ := hb
      have hzs : z ∈ s.stack := (List.mem_append.1 (h.edge u hu.mem z e)).resolve_left hz
      by_cases ez : z = m
      · subst ez
        exact .inl (h.back v z hns ⟨u, hu, e⟩)
      · rw [hst] at hzs
        rcases List.mem_append.1 hzs with h4 | h4
        · exact .inr ⟨z, hu.rea.step e, .inl h4⟩
        · simp at h4; exact absurd h4 ez
theorem KInv.enter {g : List (List Nat)} {s : LSt} (h : KInv g s) (hst : s.stack = []) {k : Nat} (hk : k ∉ s.left ++ s.stack) : KInv g (lenter s k) := by
  rw [hst, List.append_nil] at hk
  have up : ∀ y, y ∈ s.left ++ s.stack → y ∈ s.left ++ [k] := fun y hy => by
    rw [hst, List.append_nil] at hy; exact List.mem_append_left _ hy
  refine ⟨fun m j y hj hy => up y (h.tried m j y hj hy), fun a ha y hy => up y (h.edge a ha y hy), List.pairwise_singleton _ _, fun v z hz hb => ?_, fun v m hb hr => ?_⟩
  · simp [lenter] at hz; subst hz
    obtain ⟨u, hu, e⟩ := hb
    have := h.edge u hu.mem _ e
    rw [hst, List.append_nil] at this
    exact absurd this hk
  · rcases h.ord v m hb hr with h1 | ⟨z, h1, h2⟩
    · exact .inl h1
    · refine .inr ⟨z, h1, ?_⟩
      rcases h2 with h2 | h2
      · rw [hst] at h2; cases h2
      · exact .inr h2
end Go.Proofs.Ytnhhhnhakpambaa
