/- Two nodes have the same leader exactly if each is reachable from the other. Of no program. -/
import Derived.Test.YtnhhhnhakpambaaKosaM
namespace Go.Proofs.Ytnhhhnhakpambaa

structure JInv (g : List (List Nat)) (s : LSt) : Prop where
  l : LInv g s
  k : KInv g s
theorem last_app {α : Type} {l : List α} {x : α} (h : l.getLast? = some x) : ∃ st, l = st ++ [x] := by
  obtain ⟨st, e⟩ := List.getLast?_eq_some_iff.1 h
  exact ⟨st, e⟩
theorem JInv.step {g : List (List Nat)} (hg : VG g) {s : LSt} (h : JInv g s) : JInv g (lstep g s) := by
  cases hs : s.stack.getLast? with
  | none =>
    have : lstep g s = s := by unfold lstep; rw [hs]
    rw [this]; exact h
  | some n =>
    obtain ⟨st, hst⟩ := last_app hs
    have hn : n < g.length := h.l.node n (by rw [hst]; simp)
    rcases Nat.lt_or_ge (tr s n) (row g n).length with ht | ht
    · have hx : (row g n)[tr s n]? = some (row g n)[tr s n] := List.getElem?_eq_getElem ht
      generalize hxe : (row g n)[tr s n] = x at hx
      have hxn : x < g.length := hg.node n x (List.mem_of_getElem? hx)
      rcases h.l.em hxn with hsn | hsn
      · rw [lstep_skip hs hx hsn]
        exact ⟨h.l.skip hn ht, h.k.skip h.l hn hx ((h.l.mark x hxn).1 hsn)⟩
      · rw [lstep_push hs hx hsn]
        exact ⟨h.l.push hn ht hxn hsn, h.k.push h.l hst hn hx (h.l.unseen hxn hsn)⟩
    · rw [lstep_pop hs ht, hst, List.dropLast_concat]
      exact ⟨h.l.pop hst, h.k.pop h.l hst ht⟩
theorem JInv.run {g : List (List Nat)} (hg : VG g) : ∀ (k : Nat) {s : LSt}, JInv g s → JInv g (lrun g k s)
  | 0, _, h => h
  | k + 1, _, h => JInv.run hg k (h.step hg)
theorem jinv_out {g : List (List Nat)} (hg : VG g) {k : Nat} {s : LSt} (h : LOut g k s) (hk : k ≤ g.length) : JInv g s ∧ s.stack = [] := by
  induction h with
  | start => exact ⟨⟨linv_init g, kinv_init g⟩, rfl⟩
  | seen _ _ ih => exact ih (by omega)
  | @new k s t _ hs hr ht ih =>
    obtain ⟨hj, hst⟩ := ih (by omega)
    obtain ⟨m, rfl⟩ := hr
    exact ⟨JInv.run hg m ⟨hj.l.enter hst (by omega) hs, hj.k.enter hst (hj.l.unseen (by omega) hs)⟩, ht⟩
/-- The order in which the nodes are left. -/
def OrdQ (g : List (List Nat)) (L : List Nat) : Prop := ∀ v n, Bef L v n → Rea g v n → Rea g n v ∨ ∃ z, Rea g v z ∧ Bef L n z
theorem ordq_out {g : List (List Nat)} (hg : VG g) {s : LSt} (h : LOut g g.length s) : OrdQ g s.left := by
  obtain ⟨hj, hst⟩ := jinv_out hg h (Nat.le_refl _)
  intro v n hb hr
  rcases hj.k.ord v n hb hr with h1 | ⟨z, h1, h2⟩
  · exact .inl h1
  · refine .inr ⟨z, h1, ?_⟩
    rcases h2 with h2 | h2
    · rw [hst] at h2; cases h2
    · exact h2
/-- One leader's search: D: the leaders before it. -/
structure Clm (back : List (List Nat)) (m n : Nat) (D : List Int) (s : LdQ) : Prop where
  own : n ∈ s.2
  q : ∀ x ∈ s.2, dat D x = -1 ∧ x < m ∧ ∃ k, RchN back [n] k x
  at_ : ∀ y, dat s.1 y = if y ∈ s.2 then (n : Int) else dat D y
  len : s.1.length = m
theorem Clm.start {back : List (List Nat)} {m n : Nat} {D : List Int} (hl : D.length = m) (hn : n < m) (hd : dat D n = -1) : Clm back m n D (D.set n n, [n]) := by
  refine ⟨by simp, fun x hx => ?_, fun y => ?_, by simp [hl]⟩
  · simp at hx; subst hx
    exact ⟨hd, hn, 0, by simp [RchN]⟩
  · show dat (D.set n n) y = _
    rw [dat_set (by omega)]
    simp
theorem Clm.visit {back : List (List Nat)} {m n : Nat} {D : List Int} {s : LdQ} (h : Clm back m n D s) {x : Nat} (hx : x < m) (hr : ∃ k, RchN back [n] k x) : Clm back m n D (lvisit n s x) ∧ dat (lvisit n s x).1 x ≠ -1 ∧ (∀ y ∈ s.2, y ∈ (lvisit n s x).2) ∧ ∃ t, (lvisit n s x).2 = s.2 ++ t := by
  unfold lvisit
  split
  · rename_i he
    have hxl : x < s.1.length := by rw [h.len]; exact hx
    have hxq : x ∉ s.2 := fun hm => by
      have := h.at_ x
      rw [if_pos hm] at this
      omega
    have hD : dat D x = -1 := by have := h.at_ x; rw [if_neg hxq] at this; omega
    refine ⟨⟨List.mem_append_left _ h.own, fun y hy => ?_, fun y => ?_, by simp [h.len]⟩, ?_, fun y hy => List.mem_append_left _ hy, [x], rfl⟩
    · rcases List.mem_append.1 hy with h1 | h1
      · exact h.q y h1
      · simp at h1; subst h1; exact ⟨hD, hx, hr⟩
    · show dat (s.1.set x n) y = _
      rw [dat_set hxl, h.at_ y]
      by_cases e : y = x
      · subst e; simp
      · rw [if_neg e]
        by_cases e2 : y ∈ s.2
        · rw [if_pos e2, if_pos (List.mem_append_left _ e2)]
        · rw [if_neg e2, if_neg (by simp [e, e2])]
    · show dat (s.1.set x n) x ≠ -1
      rw [dat_set hxl, if_pos rfl]; omega
  · rename_i he
    exact ⟨h, he, fun y hy => hy, [], by simp⟩
theorem Clm.fold {back : List (List Nat)} {m n : Nat} {D : List Int} : ∀ (l : List Nat) {s : LdQ}, Clm back m n D s → (∀ x ∈ l, x < m ∧ ∃ k, RchN back [n] k x) → Clm back m n D (l.foldl (lvisit n) s) ∧ (∀ x ∈ l, dat (l.foldl (lvisit n) s).1 x ≠ -1) ∧ ∃ t, (l.foldl (lvisit n) s).2 = s.2 ++ t
  | [], s, h, _ => ⟨h, by simp, [], by simp⟩
  | x :: l, s, h, hl => by
    obtain ⟨hx, hr⟩ := hl x (by simp)
    obtain ⟨h1, h2, _, t, ht⟩ := h.visit hx hr
    obtain ⟨h4, h5, t2, ht2⟩ := Clm.fold l h1 (fun y hy => hl y (List.mem_cons_of_mem _ hy))
    refine ⟨h4, fun y hy => ?_, t ++ t2, ?_⟩
    · rcases List.mem_cons.1 hy with rfl | hy
      · exact (lfold_keep n l _ h2 ▸ h2 : dat (l.foldl (lvisit n) (lvisit n s y)).1 y ≠ -1)
      · exact h5 y hy
    · rw [List.foldl_cons, ht2, ht, List.append_assoc]
/-- The search: behind it all predecessors of what is in the queue have a leader. -/
theorem Clm.bfs {back : List (List Nat)} {m n : Nat} {D : List Int} (hb : ∀ u x, x ∈ row back u → x < m) : ∀ (f h : Nat) {s : LdQ}, Clm back m n D s → s.2.Nodup → (∀ i u, i < h → s.2[i]? = some u → ∀ y ∈ row back u, dat s.1 y ≠ -1) → m + 1 ≤ f + h → h ≤ s.2.length →
    Clm back m n D (lbfs back n f h s) ∧ ∀ u ∈ (lbfs back n f h s).2, ∀ y ∈ row back u, dat (lbfs back n f h s).1 y ≠ -1
  | 0, h, s, hc, hnd, hp, hf, hh => by
    have := nodup_lt hnd (fun x hx => (hc.q x hx).2.1)
    omega
  | f + 1, h, s, hc, hnd, hp, hf, hh => by
    unfold lbfs
    cases hu : s.2[h]? with
    | none =>
      have hl : s.2.length ≤ h := List.getElem?_eq_none_iff.1 hu
      show Clm back m n D s ∧ ∀ u ∈ s.2, ∀ y ∈ row back u, dat s.1 y ≠ -1
      refine ⟨hc, fun u hm y hy => ?_⟩
      obtain ⟨i, hi, rfl⟩ := List.getElem_of_mem hm
      exact hp i _ (by omega) (List.getElem?_eq_getElem hi) y hy
    | some u =>
      have hlt : h < s.2.length := (List.getElem?_eq_some_iff.1 hu).1
      obtain ⟨_, _, k, hk⟩ := hc.q u (List.mem_of_getElem? hu)
      obtain ⟨h1, h2, t, ht⟩ := Clm.fold (row back u) hc (fun y hy => ⟨hb u y hy, k + 1, u, hk, hy⟩)
      have hnd2 : (lproc back n s u).2.Nodup := by
        have : ∀ (l : List Nat) (s : LdQ), Clm back m n D s → s.2.Nodup → (∀ x ∈ l, x < m ∧ ∃ k, RchN back [n] k x) → (l.foldl (lvisit n) s).2.Nodup := by
          intro l
          induction l with
          | nil => intro s _ h _; exact h
          | cons x l ih =>
            intro s hc hn hl
            obtain ⟨hx, hr⟩ := hl x (by simp)
            refine ih _ (hc.visit hx hr).1 ?_ (fun y hy => hl y (List.mem_cons_of_mem _ hy))
            unfold lvisit
            split
            · rename_i he
              show (s.2 ++ [x]).Nodup
              rw [List.nodup_append]
              refine ⟨hn, by simp, fun a ha b hb => ?_⟩
              simp at hb; subst hb
              rintro rfl
              have := hc.at_ a
              rw [if_pos ha] at this
              omega
            · exact hn
        exact this _ s hc hnd (fun y hy => ⟨hb u y hy, k + 1, u, hk, hy⟩)
      refine Clm.bfs hb f (h + 1) h1 hnd2 (fun i u' hi hu' y hy => ?_) (by omega) ?_
      · have hi2 : i < s.2.length := by omega
        rw [show (lproc back n s u).2 = s.2 ++ t from ht, List.getElem?_append_left hi2] at hu'
        by_cases e : i = h
        · subst e
          rw [hu] at hu'; cases hu'
          exact h2 y hy
        · have h3 := hp i u' (by omega) hu' y hy
          exact (lfold_keep n (row back u) s h3 ▸ h3 : dat ((row back u).foldl (lvisit n) s).1 y ≠ -1)
      · rw [show (lproc back n s u).2 = s.2 ++ t from ht, List.length_append]; omega
theorem rea_back {g : List (List Nat)} (hg : VG g) {a b : Nat} : (∃ k, RchN (revM g) [b] k a) ↔ Rea g a b := by
  constructor
  · rintro ⟨k, hk⟩; exact ⟨k, (RchN.rev (revM_rev hg)).2 hk⟩
  · rintro ⟨k, hk⟩; exact ⟨k, (RchN.rev (revM_rev hg)).1 hk⟩
/-- The leaders so far: behind the nodes p. -/
structure Led (g : List (List Nat)) (D : List Int) (p : List Nat) : Prop where
  len : D.length = g.length
  did : ∀ x ∈ p, dat D x ≠ -1
  pred : ∀ x y, x < g.length → dat D x ≠ -1 → y ∈ row (revM g) x → dat D y ≠ -1
  same : ∀ x, x < g.length → dat D x ≠ -1 → ∃ n : Nat, dat D x = n ∧ n < g.length ∧ Rea g x n ∧ Rea g n x
  one : ∀ x y, x < g.length → y < g.length → dat D x ≠ -1 → Rea g x y → Rea g y x → dat D x = dat D y
theorem Led.closed {g : List (List Nat)} (hg : VG g) {D : List Int} {p : List Nat} (h : Led g D p) {x y : Nat} (hx : x < g.length) (hd : dat D x ≠ -1) (hr : Rea g y x) : dat D y ≠ -1 := by
  obtain ⟨k, hk⟩ := (rea_back hg).2 hr
  have : ∀ (k : Nat) (y : Nat), RchN (revM g) [x] k y → dat D y ≠ -1 := by
    intro k
    induction k with
    | zero => intro y hy; have e : y = x := by simpa [RchN] using hy
              subst e; exact hd
    | succ k ih =>
      rintro y ⟨u, hu, e⟩
      have hul : u < g.length := by have := row_lt e; rwa [revM_len] at this
      exact h.pred u y hul (ih u hu) e
  exact this k y hk
theorem led_start (g : List (List Nat)) : Led g (List.replicate g.length (-1)) [] := by
  refine ⟨by simp, by simp, fun x y _ h => ?_, fun x _ h => ?_, fun x y _ _ h => ?_⟩ <;> exact absurd (dat_repl _ x) h
theorem Led.step {g : List (List Nat)} (hg : VG g) {D : List Int} {p : List Nat} (h : Led g D p) {n : Nat} (hn : n < g.length) (ho : ∀ v, v < g.length → dat D v = -1 → Rea g v n → Rea g n v) : Led g (claim (revM g) D n) (p ++ [n]) := by
  have hb : ∀ u x, x ∈ row (revM g) u → x < g.length := fun u x hx => by have := (revM_vg hg).node u x hx; rwa [revM_len] at this
  unfold claim
  split
  · rename_i hd
    obtain ⟨hc, hp⟩ := Clm.bfs hb ((revM g).length + 1) 0 (Clm.start h.len hn hd) (by simp) (fun i u hi => by omega) (by rw [revM_len]; omega) (by simp)
    generalize lbfs (revM g) n ((revM g).length + 1) 0 (D.set n n, [n]) = s at hc hp
    have keep : ∀ y, dat D y ≠ -1 → dat s.1 y = dat D y := fun y hy => by
      rw [hc.at_ y, if_neg (fun hm => hy (hc.q y hm).1)]
    have new : ∀ y, y ∈ s.2 → dat s.1 y = n := fun y hy => by rw [hc.at_ y, if_pos hy]
    have or_ : ∀ y, dat s.1 y ≠ -1 → y ∈ s.2 ∨ dat D y ≠ -1 := fun y hy => by
      by_cases hm : y ∈ s.2
      · exact .inl hm
      · rw [hc.at_ y, if_neg hm] at hy; exact .inr hy
    have qin : ∀ y, dat D y = -1 → Rea g y n → y ∈ s.2 := by
      intro y hy hr
      obtain ⟨k, hk⟩ := (rea_back hg).2 hr
      have : ∀ (k : Nat) (y : Nat), RchN (revM g) [n] k y → y ∈ s.2 ∨ dat D y ≠ -1 := by
        intro k
        induction k with
        | zero => intro y hy; have e : y = n := by simpa [RchN] using hy
                  subst e; exact .inl hc.own
        | succ k ih =>
          rintro y ⟨u, hu, e⟩
          rcases ih u hu with h1 | h1
          · exact or_ y (hp u h1 y e)
          · exact .inr (h.pred u y (by have := row_lt e; rwa [revM_len] at this) h1 e)
      rcases this k y hk with h1 | h1
      · exact h1
      · exact absurd hy h1
    refine ⟨hc.len, fun x hx => ?_, fun x y hx hdx hy => ?_, fun x hx hdx => ?_, fun x y hx hy hdx h1 h2 => ?_⟩
    · rcases List.mem_append.1 hx with h1 | h1
      · rw [keep x (h.did x h1)]; exact h.did x h1
      · simp at h1; subst h1
        rw [new _ hc.own]; omega
    · rcases or_ x hdx with h1 | h1
      · exact hp x h1 y hy
      · have := h.pred x y hx h1 hy
        rw [keep y this]; exact this
    · rcases or_ x hdx with h1 | h1
      · have hr := (rea_back hg).1 (hc.q x h1).2.2
        exact ⟨n, new x h1, hn, hr, ho x hx (hc.q x h1).1 hr⟩
      · rw [keep x h1]; exact h.same x hx h1
    · rcases or_ x hdx with h3 | h3
      · have hr := (rea_back hg).1 (hc.q x h3).2.2
        have hdy : dat D y = -1 := by
          rcases Decidable.em (dat D y = -1) with e | e
          · exact e
          · exact absurd (hc.q x h3).1 (h.closed hg hy e h1)
        rw [new x h3, new y (qin y hdy (h2.trans hr))]
      · have hdy := h.closed hg hx h3 h2
        rw [keep x h3, keep y hdy]
        exact h.one x y hx hy h3 h1 h2
  · rename_i hd
    refine ⟨h.len, fun x hx => ?_, h.pred, h.same, h.one⟩
    rcases List.mem_append.1 hx with h1 | h1
    · exact h.did x h1
    · simp at h1; subst h1; exact hd
theorem bef_split {L : List Nat} {p r : List Nat} {n : Nat} (e : L.reverse = p ++ n :: r) : (∀ v ∈ r, Bef L v n) ∧ (L.Nodup → ∀ z, Bef L n z → z ∈ p) := by
  have e2 : L = r.reverse ++ (n :: p.reverse) := by
    have := congrArg List.reverse e
    rw [List.reverse_reverse] at this
    rw [this]; simp
  subst e2
  refine ⟨fun v hv => ?_, fun hnd z hz => ?_⟩
  · obtain ⟨i, hi, rfl⟩ := List.getElem_of_mem (List.mem_reverse.2 hv)
    exact ⟨i, r.reverse.length, hi, by rw [List.getElem?_append_left hi, List.getElem?_eq_getElem hi], by simp⟩
  · obtain ⟨i, j, hij, hi, hj⟩ := hz
    have hir : i = r.reverse.length := by
      have h1 : (r.reverse ++ n :: p.reverse)[r.reverse.length]? = some n := by simp
      exact (List.getElem?_inj (List.getElem?_eq_some_iff.1 hi).1 hnd).1 (hi.trans h1.symm)
    subst hir
    rw [List.getElem?_append_right (by omega), show j - r.reverse.length = (j - r.reverse.length - 1) + 1 by omega, List.getElem?_cons_succ] at hj
    exact List.mem_reverse.1 (List.mem_of_getElem? hj)
theorem led_all {g : List (List Nat)} (hg : VG g) {L : List Nat} (hq : OrdQ g L) (hnd : L.Nodup) (hin : ∀ x, x < g.length → x ∈ L) (hlt : ∀ x ∈ L, x < g.length) : ∀ (r p : List Nat) (D : List Int), L.reverse = p ++ r → Led g D p → Led g (r.foldl (claim (revM g)) D) L.reverse
  | [], p, D, e, h => by rw [List.append_nil] at e; rw [e]; exact h
  | n :: r, p, D, e, h => by
    obtain ⟨b1, b2⟩ := bef_split e
    have hn : n < g.length := hlt n (List.mem_reverse.1 (by rw [e]; simp))
    refine led_all hg hq hnd hin hlt r (p ++ [n]) _ (by rw [e]; simp) (h.step hg hn fun v hv hd hr => ?_)
    have hvL : v ∈ L.reverse := List.mem_reverse.2 (hin v hv)
    rw [e] at hvL
    rcases List.mem_append.1 hvL with h1 | h1
    · exact absurd hd (h.did v h1)
    · rcases List.mem_cons.1 h1 with rfl | h1
      · exact Rea.refl g v
      · rcases hq v n (b1 v h1) hr with h2 | ⟨z, h2, h3⟩
        · exact h2
        · have hz := b2 hnd z h3
          have hzl : z < g.length := hlt z (List.mem_reverse.1 (by rw [e]; exact List.mem_append_left _ hz))
          exact absurd hd (h.closed hg hzl (h.did z hz) h2)
/-- The leaders tell the components. -/
theorem leads_scc {g : List (List Nat)} (hg : VG g) {s : LSt} (h : LOut g g.length s) (hi : LInv g s) (hst : s.stack = []) {M : List Nat} (hM : leadM (revM g) s.left.reverse = M.map (fun n : Nat => (n : Int))) (hl : M.length = g.length) {x y : Nat} (hx : x < g.length) (hy : y < g.length) :
    M[x]?.getD 0 = M[y]?.getD 0 ↔ Rea g x y ∧ Rea g y x := by
  have hnd : s.left.Nodup := by have := hi.nodup; rw [hst, List.append_nil] at this; exact this
  have hlt : ∀ x ∈ s.left, x < g.length := fun x hx => hi.node x (List.mem_append_left _ hx)
  have hL := led_all hg (ordq_out hg h) hnd (fun x hx => left_all h hi hst hx) hlt s.left.reverse [] _ rfl (led_start g)
  have e : leadM (revM g) s.left.reverse = s.left.reverse.foldl (claim (revM g)) (List.replicate g.length (-1)) := by unfold leadM; rw [revM_len]
  rw [← e, hM] at hL
  have hd : ∀ z, z < g.length → dat (M.map fun n : Nat => (n : Int)) z = ((M[z]?.getD 0 : Nat) : Int) := fun z hz => by
    unfold dat
    rw [List.getElem?_map, List.getElem?_eq_getElem (by omega)]
    rfl
  have nz : ∀ z, z < g.length → dat (M.map fun n : Nat => (n : Int)) z ≠ -1 := fun z hz => by rw [hd z hz]; omega
  constructor
  · intro e2
    obtain ⟨n, h1, _, h2, h3⟩ := hL.same x hx (nz x hx)
    obtain ⟨n', h1', _, h2', h3'⟩ := hL.same y hy (nz y hy)
    rw [hd x hx] at h1
    rw [hd y hy] at h1'
    obtain rfl : n = n' := by omega
    exact ⟨h2.trans h3', h2'.trans h3⟩
  · rintro ⟨h1, h2⟩
    have := hL.one x y hx hy (nz x hx) h1 h2
    rw [hd x hx, hd y hy] at this
    omega
end Go.Proofs.Ytnhhhnhakpambaa
