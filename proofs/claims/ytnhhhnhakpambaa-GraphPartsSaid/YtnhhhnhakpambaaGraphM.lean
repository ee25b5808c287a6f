/- Directed graphs as lists of lists: distances. Of no program. -/
namespace Go.Proofs.Ytnhhhnhakpambaa

/-- The list at i. -/
def row {α : Type} (g : List (List α)) (i : Nat) : List α := g[i]?.getD []
structure VG (g : List (List Nat)) : Prop where
  len : g.length ≤ 400
  node : ∀ i x, x ∈ row g i → x < g.length
  asc : ∀ i, (row g i).Pairwise (· < ·)
theorem row_big {α : Type} {g : List (List α)} {i : Nat} (h : g.length ≤ i) : row g i = [] := by
  unfold row; rw [List.getElem?_eq_none h]; rfl
theorem row_lt {α : Type} {g : List (List α)} {i : Nat} {x : α} (h : x ∈ row g i) : i < g.length := by
  rcases Nat.lt_or_ge i g.length with h1 | h1
  · exact h1
  · rw [row_big h1] at h; cases h
theorem row_get {α : Type} {g : List (List α)} {i : Nat} (h : i < g.length) : row g i = g[i] := by
  unfold row; rw [List.getElem?_eq_getElem h]; rfl
theorem nodup_lt {n : Nat} : ∀ {l : List Nat}, l.Nodup → (∀ x ∈ l, x < n) → l.length ≤ n := by
  induction n with
  | zero => intro l _ h; cases l with
    | nil => simp
    | cons a l => exact absurd (h a (by simp)) (by omega)
  | succ n ih =>
    intro l hn h
    have h1 : (l.erase n).length ≤ n := ih (hn.erase n) (fun x hx => by
      have hx1 := h x (List.mem_of_mem_erase hx)
      have : x ≠ n := fun he => by subst he; exact (List.Nodup.not_mem_erase hn) hx
      omega)
    have h2 := List.length_erase (a := n) (l := l)
    split at h2 <;> omega
theorem asc_nodup {l : List Nat} (h : l.Pairwise (· < ·)) : l.Nodup := h.imp fun h => by omega
theorem asc_len {l : List Nat} {n : Nat} (h : l.Pairwise (· < ·)) (hl : ∀ x ∈ l, x < n) : l.length ≤ n := nodup_lt (asc_nodup h) hl
theorem VG.row_len {g : List (List Nat)} (h : VG g) (i : Nat) : (row g i).length ≤ g.length := asc_len (h.asc i) (h.node i)

/-- v is reached from S by k steps. -/
def RchN (g : List (List Nat)) (S : List Nat) : Nat → Nat → Prop
  | 0, v => v ∈ S
  | k + 1, v => ∃ u, RchN g S k u ∧ v ∈ row g u
theorem RchN.node {g : List (List Nat)} {S : List Nat} (hg : VG g) (hS : ∀ x ∈ S, x < g.length) : ∀ {k v : Nat}, RchN g S k v → v < g.length
  | 0, v, h => hS v h
  | _ + 1, v, ⟨u, _, h⟩ => hg.node u v h
/-- The list D at v, -1 where there is none. -/
def dat (D : List Int) (v : Nat) : Int := D[v]?.getD (-1)
theorem dat_set {D : List Int} {u v : Nat} {x : Int} (h : u < D.length) : dat (D.set u x) v = if v = u then x else dat D v := by
  unfold dat
  rw [List.getElem?_set]
  by_cases e : u = v
  · subst e; simp [h]
  · rw [if_neg e, if_neg (fun h => e h.symm)]
theorem dat_get {D : List Int} {v : Nat} (h : v < D.length) : D[v]? = some (dat D v) := by
  unfold dat; rw [List.getElem?_eq_getElem h]; rfl
/-- k is the least number of steps to v. -/
def Mn (g : List (List Nat)) (S : List Nat) (k v : Nat) : Prop := RchN g S k v ∧ ∀ j, RchN g S j v → k ≤ j
structure IsDist (g : List (List Nat)) (S : List Nat) (D : List Int) : Prop where
  len : D.length = g.length
  at_ : ∀ v, v < g.length → (dat D v = -1 ∧ ∀ k, ¬ RchN g S k v) ∨ ∃ k : Nat, dat D v = k ∧ Mn g S k v
theorem Mn.eq {g : List (List Nat)} {S : List Nat} {k j v : Nat} (h : Mn g S k v) (h' : Mn g S j v) : k = j := Nat.le_antisymm (h.2 j h'.1) (h'.2 k h.1)
theorem IsDist.ext {g : List (List Nat)} {S : List Nat} {D E : List Int} (h : IsDist g S D) (k : IsDist g S E) : D = E := by
  refine List.ext_getElem (h.len.trans k.len.symm) fun v h1 h2 => ?_
  have hv : v < g.length := by rw [← h.len]; exact h1
  have : dat D v = dat E v := by
    rcases h.at_ v hv with ⟨a, b⟩ | ⟨a, b, c⟩ <;> rcases k.at_ v hv with ⟨a', b'⟩ | ⟨a', b', c'⟩
    · rw [a, a']
    · exact absurd c'.1 (b _)
    · exact absurd c.1 (b' _)
    · rw [b, b', c.eq c']
  simpa [dat, List.getElem?_eq_getElem h1, List.getElem?_eq_getElem h2] using this

/-- A node with the least number of steps k stands at the end of k + 1 different nodes. -/
theorem Mn.chain {g : List (List Nat)} {S : List Nat} (hg : VG g) (hS : ∀ x ∈ S, x < g.length) : ∀ {k v : Nat}, Mn g S k v → ∃ l : List Nat, l.length = k + 1 ∧ l.Nodup ∧ (∀ x ∈ l, x < g.length) ∧ ∀ x ∈ l, ∃ j, j ≤ k ∧ Mn g S j x
  | 0, v, h => ⟨[v], rfl, by simp, by simpa using RchN.node hg hS h.1, by intro x hx; simp at hx; subst hx; exact ⟨0, Nat.le_refl _, h⟩⟩
  | k + 1, v, h => by
    obtain ⟨u, hu, hv⟩ := h.1
    have hm : Mn g S k u := ⟨hu, fun j hj => by have := h.2 (j + 1) ⟨u, hj, hv⟩; omega⟩
    obtain ⟨l, h1, h2, h3, h4⟩ := Mn.chain hg hS hm
    refine ⟨v :: l, by simp [h1], ?_, ?_, ?_⟩
    · refine List.nodup_cons.2 ⟨fun hv' => ?_, h2⟩
      obtain ⟨j, hj, hjm⟩ := h4 v hv'
      have := h.eq hjm
      omega
    · intro x hx
      rcases List.mem_cons.1 hx with rfl | hx
      · exact hg.node u _ hv
      · exact h3 x hx
    · intro x hx
      rcases List.mem_cons.1 hx with rfl | hx
      · exact ⟨k + 1, Nat.le_refl _, h⟩
      · obtain ⟨j, hj, hjm⟩ := h4 x hx
        exact ⟨j, by omega, hjm⟩
theorem Mn.lt {g : List (List Nat)} {S : List Nat} (hg : VG g) (hS : ∀ x ∈ S, x < g.length) {k v : Nat} (h : Mn g S k v) : k < g.length := by
  obtain ⟨l, h1, h2, h3, _⟩ := Mn.chain hg hS h
  have := nodup_lt h2 h3
  omega
theorem RchN.mn {g : List (List Nat)} {S : List Nat} : ∀ {k v : Nat}, RchN g S k v → ∃ j, j ≤ k ∧ Mn g S j v := by
  intro k
  induction k using Nat.strongRecOn with
  | _ k ih =>
    intro v h
    by_cases hm : ∀ j, RchN g S j v → k ≤ j
    · exact ⟨k, Nat.le_refl _, h, hm⟩
    · obtain ⟨j, hj⟩ := Classical.not_forall.1 hm
      obtain ⟨hj1, hj2⟩ := Classical.not_imp.1 hj
      obtain ⟨i, hi, hm'⟩ := ih j (by omega) hj1
      exact ⟨i, by omega, hm'⟩

-- the search in breadth
structure Bfs (g : List (List Nat)) (S : List Nat) (D : List Int) (q : List Nat) : Prop where
  len : D.length = g.length
  nodup : q.Nodup
  node : ∀ v ∈ q, v < g.length
  mem : ∀ v, v < g.length → v ∉ q → dat D v = -1
  sound : ∀ v ∈ q, ∃ k : Nat, dat D v = k ∧ RchN g S k v
  mono : q.Pairwise fun a b => dat D a ≤ dat D b
  lev : ∀ (i : Nat) v, q[i]? = some v → dat D v ≤ i
theorem Bfs.qlen {g : List (List Nat)} {S : List Nat} {D : List Int} {q : List Nat} (h : Bfs g S D q) : q.length ≤ g.length := nodup_lt h.nodup h.node
theorem Bfs.none {g : List (List Nat)} {S : List Nat} {D : List Int} {q : List Nat} (h : Bfs g S D q) {v : Nat} (hv : v < g.length) : dat D v = -1 ↔ v ∉ q := by
  refine ⟨fun e hq => ?_, h.mem v hv⟩
  obtain ⟨k, h1, _⟩ := h.sound v hq
  omega
theorem Bfs.lo {g : List (List Nat)} {S : List Nat} {D : List Int} {q : List Nat} (h : Bfs g S D q) (v : Nat) : -1 ≤ dat D v := by
  by_cases hv : v < g.length
  · by_cases hq : v ∈ q
    · obtain ⟨k, h1, _⟩ := h.sound v hq; omega
    · rw [h.mem v hv hq]; omega
  · unfold dat; rw [List.getElem?_eq_none (by rw [h.len]; omega)]; simp
/-- Each label is less than the number of nodes. -/
theorem Bfs.add {g : List (List Nat)} {S : List Nat} {D : List Int} {q : List Nat} (h : Bfs g S D q) {v : Nat} {x : Nat} (hv : v < g.length) (hn : dat D v = -1) (hr : RchN g S x v) (hle : ∀ u ∈ q, dat D u ≤ x) (hx : x ≤ q.length) : Bfs g S (D.set v x) (q ++ [v]) := by
  have hnq : v ∉ q := (h.none hv).1 hn
  have hvl : v < D.length := by rw [h.len]; exact hv
  have same : ∀ u ∈ q, dat (D.set v x) u = dat D u := fun u hu => by
    rw [dat_set hvl, if_neg]
    rintro rfl
    exact hnq hu
  refine ⟨by simp [h.len], ?_, ?_, ?_, ?_, ?_, ?_⟩
  · rw [List.nodup_append]
    refine ⟨h.nodup, by simp, ?_⟩
    intro a ha b hb
    simp at hb
    subst hb
    rintro rfl
    exact hnq ha
  · intro u hu
    rcases List.mem_append.1 hu with hu | hu
    · exact h.node u hu
    · simp at hu; subst hu; exact hv
  · intro u hu hq
    have h1 : u ∉ q := fun hh => hq (List.mem_append_left _ hh)
    have h2 : u ≠ v := fun hh => hq (by simp [hh])
    rw [dat_set hvl, if_neg h2]
    exact h.mem u hu h1
  · intro u hu
    rcases List.mem_append.1 hu with hu | hu
    · rw [same u hu]; exact h.sound u hu
    · simp at hu; subst hu
      rw [dat_set hvl, if_pos rfl]
      exact ⟨x, rfl, hr⟩
  · rw [List.pairwise_append]
    refine ⟨?_, by simp, ?_⟩
    · exact h.mono.imp_of_mem fun ha hb hab => by rw [same _ ha, same _ hb]; exact hab
    · intro a ha b hb
      simp at hb; subst hb
      rw [same a ha, dat_set hvl, if_pos rfl]
      exact hle a ha
  · intro i u hu
    rcases Nat.lt_or_ge i q.length with h1 | h1
    · rw [List.getElem?_append_left h1] at hu
      rw [same u (List.mem_of_getElem? hu)]
      exact h.lev i u hu
    · rw [List.getElem?_append_right h1] at hu
      have h2 : i - q.length = 0 := by have := (List.getElem?_eq_some_iff.1 hu).1; simp at this; omega
      rw [h2] at hu
      simp at hu; subst hu
      rw [dat_set hvl, if_pos rfl]; omega
theorem dat_repl (n v : Nat) : dat (List.replicate n (-1)) v = -1 := by
  unfold dat; rw [List.getElem?_replicate]; split <;> rfl
theorem Bfs.start (g : List (List Nat)) (S : List Nat) : Bfs g S (List.replicate g.length (-1)) [] :=
  ⟨by simp, by simp, by simp, fun v _ _ => dat_repl _ v, by simp, by simp, by simp⟩
/-- The first part of the search: i of the given nodes are taken. -/
structure Bfs0 (g : List (List Nat)) (S : List Nat) (D : List Int) (q : List Nat) (i : Nat) : Prop extends Bfs g S D q where
  zero : ∀ v ∈ q, dat D v = 0
  src : ∀ v ∈ S.take i, v ∈ q
theorem Bfs0.start (g : List (List Nat)) (S : List Nat) : Bfs0 g S (List.replicate g.length (-1)) [] 0 := ⟨Bfs.start g S, by simp, by simp⟩
theorem take_succ_mem {α : Type} {S : List α} {i : Nat} (h : i < S.length) (v : α) : v ∈ S.take (i + 1) ↔ v ∈ S.take i ∨ v = S[i] := by
  rw [List.take_succ_eq_append_getElem h, List.mem_append, List.mem_singleton]
theorem Bfs0.old {g : List (List Nat)} {S : List Nat} {D : List Int} {q : List Nat} {i : Nat} (h : Bfs0 g S D q i) (hi : i < S.length) (hv : S[i] < g.length) (hn : dat D S[i] ≠ -1) : Bfs0 g S D q (i + 1) :=
  ⟨h.toBfs, h.zero, fun v hv' => by
    rcases (take_succ_mem hi v).1 hv' with h1 | rfl
    · exact h.src v h1
    · exact Classical.not_not.1 fun hq => hn (h.mem _ hv hq)⟩
theorem Bfs0.new {g : List (List Nat)} {S : List Nat} {D : List Int} {q : List Nat} {i : Nat} (h : Bfs0 g S D q i) (hi : i < S.length) (hv : S[i] < g.length) (hn : dat D S[i] = -1) : Bfs0 g S (D.set S[i] 0) (q ++ [S[i]]) (i + 1) := by
  have hb := h.toBfs.add (x := 0) hv hn (List.getElem_mem hi) (fun u hu => by rw [h.zero u hu]; simp) (Nat.zero_le _)
  have hvl : S[i] < D.length := by rw [h.len]; exact hv
  refine ⟨hb, ?_, ?_⟩
  · intro v hv'
    rw [dat_set hvl]
    split
    · rfl
    · rename_i hne
      rcases List.mem_append.1 hv' with h1 | h1
      · exact h.zero v h1
      · simp at h1; exact absurd h1 hne
  · intro v hv'
    rcases (take_succ_mem hi v).1 hv' with h1 | rfl
    · exact List.mem_append_left _ (h.src v h1)
    · simp
/-- The second part: the first h of the queue are done, and j successors of the next one. -/
structure BfsH (g : List (List Nat)) (S : List Nat) (D : List Int) (q : List Nat) (h : Nat) : Prop extends Bfs g S D q where
  src : ∀ v ∈ S, v ∈ q ∧ dat D v = 0
  done : ∀ i u, i < h → q[i]? = some u → ∀ v ∈ row g u, v ∈ q ∧ dat D v ≤ dat D u + 1
  bound : ∀ u, q[h]? = some u → ∀ v ∈ q, dat D v ≤ dat D u + 1
structure BfsJ (g : List (List Nat)) (S : List Nat) (D : List Int) (q : List Nat) (h u j : Nat) : Prop extends BfsH g S D q h where
  cur : q[h]? = some u
  part : ∀ v ∈ (row g u).take j, v ∈ q ∧ dat D v ≤ dat D u + 1
theorem Bfs0.next {g : List (List Nat)} {S : List Nat} {D : List Int} {q : List Nat} (h : Bfs0 g S D q S.length) : BfsH g S D q 0 :=
  ⟨h.toBfs, fun v hv => by
    have := h.src v (by rw [List.take_length]; exact hv)
    exact ⟨this, h.zero v this⟩, by intro i u hi; omega, fun u hu v hv => by
    rw [h.zero v hv, h.zero u (List.mem_of_getElem? hu)]; omega⟩
theorem BfsH.enter {g : List (List Nat)} {S : List Nat} {D : List Int} {q : List Nat} {h u : Nat} (H : BfsH g S D q h) (hu : q[h]? = some u) : BfsJ g S D q h u 0 := ⟨H, hu, by simp⟩
theorem BfsJ.leave {g : List (List Nat)} {S : List Nat} {D : List Int} {q : List Nat} {h u : Nat} (H : BfsJ g S D q h u (row g u).length) : BfsH g S D q (h + 1) := by
  refine ⟨H.toBfs, H.src, ?_, ?_⟩
  · intro i u' hi hu' v hv
    rcases Nat.lt_succ_iff_lt_or_eq.1 hi with h1 | rfl
    · exact H.done i u' h1 hu' v hv
    · have hc := H.cur
      rw [hu'] at hc
      cases hc
      exact H.part v (by rw [List.take_length]; exact hv)
  · intro u' hu' v hv
    have h1 := H.bound u H.cur v hv
    have h2 : dat D u ≤ dat D u' := by
      obtain ⟨h1, e1⟩ := List.getElem?_eq_some_iff.1 H.cur
      obtain ⟨h2, e2⟩ := List.getElem?_eq_some_iff.1 hu'
      have := List.pairwise_iff_getElem.1 H.mono h (h + 1) h1 h2 (by omega)
      rwa [e1, e2] at this
    omega
theorem BfsJ.old {g : List (List Nat)} {S : List Nat} {D : List Int} {q : List Nat} {h u j : Nat} (hg : VG g) (H : BfsJ g S D q h u j) (hj : j < (row g u).length) (hn : dat D (row g u)[j] ≠ -1) : BfsJ g S D q h u (j + 1) :=
  ⟨H.toBfsH, H.cur, fun v hv => by
    rcases (take_succ_mem hj v).1 hv with h1 | rfl
    · exact H.part v h1
    · have hq : (row g u)[j] ∈ q := Classical.not_not.1 fun hq => hn (H.mem _ (hg.node u _ (List.getElem_mem hj)) hq)
      exact ⟨hq, H.bound u H.cur _ hq⟩⟩
theorem BfsJ.new {g : List (List Nat)} {S : List Nat} {D : List Int} {q : List Nat} {h u j : Nat} (hg : VG g) (H : BfsJ g S D q h u j) (hj : j < (row g u).length) (hn : dat D (row g u)[j] = -1) : BfsJ g S (D.set (row g u)[j] (dat D u + 1)) (q ++ [(row g u)[j]]) h u (j + 1) := by
  have hv := hg.node u _ (List.getElem_mem hj)
  have huq := List.mem_of_getElem? H.cur
  obtain ⟨k, hk, hrk⟩ := H.sound u huq
  have e : dat D u + 1 = ((k + 1 : Nat) : Int) := by omega
  have hb := H.toBfs.add (x := k + 1) hv hn ⟨u, hrk, List.getElem_mem hj⟩ (fun u' hu' => by have := H.bound u H.cur u' hu'; omega) (by have := H.lev h u H.cur; have := (List.getElem?_eq_some_iff.1 H.cur).1; omega)
  rw [← e] at hb
  have hvl : (row g u)[j] < D.length := by rw [H.len]; exact hv
  have hnq : (row g u)[j] ∉ q := (H.none hv).1 hn
  have same : ∀ w ∈ q, dat (D.set (row g u)[j] (dat D u + 1)) w = dat D w := fun w hw => by
    rw [dat_set hvl, if_neg]
    rintro rfl
    exact hnq hw
  have hlen : ∀ i w, q[i]? = some w → (q ++ [(row g u)[j]])[i]? = some w := fun i w hw => by
    rw [List.getElem?_append_left (List.getElem?_eq_some_iff.1 hw).1]; exact hw
  have hh : h < q.length := (List.getElem?_eq_some_iff.1 H.cur).1
  refine ⟨⟨hb, ?_, ?_, ?_⟩, hlen _ _ H.cur, ?_⟩
  · intro v hv'
    obtain ⟨h1, h2⟩ := H.src v hv'
    exact ⟨List.mem_append_left _ h1, by rw [same v h1]; exact h2⟩
  · intro i w hi hw v hv'
    rw [List.getElem?_append_left (by omega)] at hw
    obtain ⟨h1, h2⟩ := H.done i w hi hw v hv'
    exact ⟨List.mem_append_left _ h1, by rw [same v h1, same w (List.mem_of_getElem? hw)]; exact h2⟩
  · intro w hw v hv'
    rw [List.getElem?_append_left hh, H.cur] at hw
    cases hw
    rw [same _ huq]
    rcases List.mem_append.1 hv' with h1 | h1
    · rw [same v h1]; exact H.bound _ H.cur v h1
    · simp at h1; subst h1
      rw [dat_set hvl, if_pos rfl]; omega
  · intro v hv'
    rw [same _ huq]
    rcases (take_succ_mem hj v).1 hv' with h1 | rfl
    · obtain ⟨h2, h3⟩ := H.part v h1
      exact ⟨List.mem_append_left _ h2, by rw [same v h2]; exact h3⟩
    · exact ⟨by simp, by rw [dat_set hvl, if_pos rfl]; omega⟩
theorem BfsH.fin {g : List (List Nat)} {S : List Nat} {D : List Int} {q : List Nat} (H : BfsH g S D q q.length) : IsDist g S D := by
  have all : ∀ k v, RchN g S k v → v ∈ q ∧ dat D v ≤ k := by
    intro k
    induction k with
    | zero => intro v hv; obtain ⟨h1, h2⟩ := H.src v hv; exact ⟨h1, by omega⟩
    | succ k ih =>
      rintro v ⟨u, hu, hv⟩
      obtain ⟨h1, h2⟩ := ih u hu
      obtain ⟨i, hi, e⟩ := List.getElem_of_mem h1
      obtain ⟨h3, h4⟩ := H.done i u hi (by rw [List.getElem?_eq_getElem hi, e]) v hv
      exact ⟨h3, by omega⟩
  refine ⟨H.len, fun v hv => ?_⟩
  by_cases hq : v ∈ q
  · obtain ⟨k, h1, h2⟩ := H.sound v hq
    exact .inr ⟨k, h1, h2, fun j hj => by have := (all j v hj).2; omega⟩
  · exact .inl ⟨H.mem v hv hq, fun k hk => hq (all k v hk).1⟩

-- the reference's rounds
def Lbl (g : List (List Nat)) (S : List Nat) (D : List Int) (d : Nat) (v : Nat) : Prop := dat D v = -1 ∨ ∃ k : Nat, k ≤ d ∧ dat D v = k ∧ Mn g S k v
/-- Before round d. -/
structure Rnd (g : List (List Nat)) (S : List Nat) (D : List Int) (d : Nat) : Prop where
  len : D.length = g.length
  lbl : ∀ v, v < g.length → Lbl g S D d v
  all : ∀ j v, j ≤ d → RchN g S j v → dat D v ≠ -1
/-- In round d: the nodes below i are done, and k successors of i. -/
structure RndI (g : List (List Nat)) (S : List Nat) (D : List Int) (d i k : Nat) : Prop where
  len : D.length = g.length
  lbl : ∀ v, v < g.length → Lbl g S D (d + 1) v
  all : ∀ j v, j ≤ d → RchN g S j v → dat D v ≠ -1
  done : ∀ u, u < i → dat D u = d → ∀ v ∈ row g u, dat D v ≠ -1
  part : dat D i = d → ∀ v ∈ (row g i).take k, dat D v ≠ -1
theorem Rnd.enter {g : List (List Nat)} {S : List Nat} {D : List Int} {d : Nat} (h : Rnd g S D d) : RndI g S D d 0 0 :=
  ⟨h.len, fun v hv => (h.lbl v hv).imp id fun ⟨k, h1, h2⟩ => ⟨k, by omega, h2⟩, h.all, fun u hu => by omega, by simp⟩
theorem RndI.leave {g : List (List Nat)} {S : List Nat} {D : List Int} {d : Nat} (hg : VG g) (hS : ∀ x ∈ S, x < g.length) (h : RndI g S D d g.length 0) : Rnd g S D (d + 1) := by
  refine ⟨h.len, h.lbl, fun j v hj hr => ?_⟩
  rcases Nat.lt_succ_iff_lt_or_eq.1 (Nat.lt_succ_of_le hj) with h1 | rfl
  · exact h.all j v (by omega) hr
  · obtain ⟨u, hu, hv⟩ := hr
    have hun := RchN.node hg hS hu
    have h1 := h.all d u (Nat.le_refl _) hu
    rcases h.lbl u hun with h2 | ⟨k, h2, h3, h4⟩
    · exact absurd h2 h1
    · have h5 := h4.2 d hu
      by_cases e : k = d
      · exact h.done u hun (by rw [h3, e]) v hv
      · exact h.all (k + 1) v (by omega) ⟨u, h4.1, hv⟩
theorem RndI.skip {g : List (List Nat)} {S : List Nat} {D : List Int} {d i k : Nat} (h : RndI g S D d i k) (hk : dat D i ≠ d ∨ (row g i).length ≤ k) : RndI g S D d (i + 1) 0 := by
  refine ⟨h.len, h.lbl, h.all, fun u hu hd v hv => ?_, by simp⟩
  rcases Nat.lt_succ_iff_lt_or_eq.1 hu with h1 | rfl
  · exact h.done u h1 hd v hv
  · rcases hk with h1 | h1
    · exact absurd hd h1
    · exact h.part hd v (by rw [List.take_of_length_le h1]; exact hv)
theorem RndI.old {g : List (List Nat)} {S : List Nat} {D : List Int} {d i k : Nat} (h : RndI g S D d i k) (hk : k < (row g i).length) (hn : dat D (row g i)[k] ≠ -1) : RndI g S D d i (k + 1) :=
  ⟨h.len, h.lbl, h.all, h.done, fun hd v hv => by
    rcases (take_succ_mem hk v).1 hv with h1 | rfl
    · exact h.part hd v h1
    · exact hn⟩
theorem RndI.new {g : List (List Nat)} {S : List Nat} {D : List Int} {d i k : Nat} (hg : VG g) (h : RndI g S D d i k) (hk : k < (row g i).length) (hi : dat D i = d) (hn : dat D (row g i)[k] = -1) : RndI g S (D.set (row g i)[k] ((d + 1 : Nat) : Int)) d i (k + 1) := by
  have hv := hg.node i _ (List.getElem_mem hk)
  have hvl : (row g i)[k] < D.length := by rw [h.len]; exact hv
  have hil : i < g.length := row_lt (List.getElem_mem hk)
  have keep : ∀ w, dat D w ≠ -1 → dat (D.set (row g i)[k] ((d + 1 : Nat) : Int)) w ≠ -1 := fun w hw => by
    rw [dat_set hvl]; split
    · omega
    · exact hw
  have back : ∀ w, dat (D.set (row g i)[k] ((d + 1 : Nat) : Int)) w = d → dat D w = d := fun w hw => by
    rw [dat_set hvl] at hw
    split at hw
    · omega
    · exact hw
  refine ⟨by simp [h.len], ?_, fun j v hj hr => keep v (h.all j v hj hr), fun u hu hd v hv' => keep v (h.done u hu (back u hd) v hv'), ?_⟩
  · intro v hvn
    unfold Lbl
    rw [dat_set hvl]
    split
    · rename_i e
      refine .inr ⟨d + 1, Nat.le_refl _, rfl, ?_⟩
      have hr : RchN g S (d + 1) v := by
        rcases h.lbl i hil with h1 | ⟨j, h1, h2, h3⟩
        · omega
        · have : j = d := by omega
          subst this
          exact ⟨i, h3.1, by rw [e]; exact List.getElem_mem hk⟩
      refine ⟨hr, fun j hj => ?_⟩
      rcases Nat.lt_or_ge d j with h1 | h1
      · exact h1
      · exact absurd (by rw [e]; exact hn) (h.all j v h1 hj)
    · exact h.lbl v hvn
  · intro hd v hv'
    rcases (take_succ_mem hk v).1 hv' with h1 | rfl
    · exact keep v (h.part (back i hd) v h1)
    · rw [dat_set hvl, if_pos rfl]; omega
theorem Rnd.fin {g : List (List Nat)} {S : List Nat} {D : List Int} (hg : VG g) (hS : ∀ x ∈ S, x < g.length) (h : Rnd g S D g.length) : IsDist g S D := by
  refine ⟨h.len, fun v hv => ?_⟩
  rcases h.lbl v hv with h1 | ⟨k, _, h2, h3⟩
  · refine .inl ⟨h1, fun k hk => ?_⟩
    obtain ⟨j, _, hj⟩ := RchN.mn hk
    exact h.all j v (Nat.le_of_lt (hj.lt hg hS)) hj.1 h1
  · exact .inr ⟨k, h2, h3⟩
theorem Rnd.start {g : List (List Nat)} {S : List Nat} {D : List Int} (hl : D.length = g.length) (h : ∀ v, v < g.length → dat D v = if v ∈ S then 0 else -1) (hS : ∀ x ∈ S, x < g.length) : Rnd g S D 0 := by
  refine ⟨hl, fun v hv => ?_, fun j v hj hr => ?_⟩
  · unfold Lbl
    rw [h v hv]
    split
    · rename_i hm
      exact .inr ⟨0, Nat.le_refl _, rfl, hm, fun _ _ => Nat.zero_le _⟩
    · exact .inl rfl
  · have : j = 0 := by omega
    subst this
    rw [h v (hS v hr), if_pos (show v ∈ S from hr)]; decide

-- reversal
def Rev (g h : List (List Nat)) : Prop := h.length = g.length ∧ ∀ u v, v ∈ row h u ↔ u ∈ row g v
theorem Rev.symm {g h : List (List Nat)} (r : Rev g h) : Rev h g := ⟨r.1.symm, fun u v => (r.2 v u).symm⟩
theorem RchN.back {g h : List (List Nat)} (r : Rev g h) {a b : Nat} : ∀ {k u m}, RchN g [a] k u → RchN h [b] m u → RchN h [b] (m + k) a
  | 0, u, m, h1, h2 => by have : u = a := by simpa [RchN] using h1
                          subst this; exact h2
  | k + 1, u, m, ⟨u', h1, h3⟩, h2 => by
    have := RchN.back r (m := m + 1) h1 ⟨u, h2, (r.2 u u').2 h3⟩
    rwa [Nat.add_assoc, Nat.add_comm 1 k] at this
theorem RchN.rev {g h : List (List Nat)} (r : Rev g h) {a b k : Nat} : RchN g [a] k b ↔ RchN h [b] k a := by
  constructor
  · intro hk; have := RchN.back r (m := 0) hk (show b ∈ [b] by simp); rwa [Nat.zero_add] at this
  · intro hk; have := RchN.back r.symm (m := 0) hk (show a ∈ [a] by simp); rwa [Nat.zero_add] at this
end Go.Proofs.Ytnhhhnhakpambaa
