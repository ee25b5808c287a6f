/- Layer 13: the reference's shortest paths, plain; a copy of a zone in any order. -/
import Derived.Test.YteoddcamicmapaaZnAw
import Derived.Test.YteoddcamicmapaaZnPl
namespace Go.Proofs.Yteoddcamicmapaa
open Go.RowKit

structure Gen (n : Nat) (D : Nat → Nat → Int) (b : List Int) : Prop where
  len : b.length = n * n
  lo : ∀ i j, i < n → j < n → -20001 ≤ gt n b i j
  le : ∀ i j, i < n → j < n → gt n b i j ≤ D i j
  so : ∀ v, Sat n D v → Sat n (gt n b) v
/-- In round k, ahead of entry p. -/
def RP (n : Nat) (D : Nat → Nat → Int) (k p : Nat) (b : List Int) : Prop :=
  Gen n D b ∧ ((∃ x, x < n ∧ gt n b x x < 0) ∨ ∃ M, Wf n (-20001) D k M ∧ (∀ i, i < n → M i i = 0) ∧ b = mixL n (stp (-20001) k M) M p)
def upR (n : Nat) (b : List Int) (k i j : Nat) : Int := min (gt n b i j) (max (-20001) (gt n b i k + gt n b k j))
theorem gen_flat {n : Nat} {D : Nat → Nat → Int} (h : Dok n D) : Gen n D (flat n D) :=
  ⟨flat_len _ _, fun i j hi hj => by rw [gt_flat _ hi hj]; exact h.lo i j hi hj, fun i j hi hj => by rw [gt_flat _ hi hj]; exact Int.le_refl _, fun v hv i j hi hj => by rw [gt_flat _ hi hj]; exact hv i j hi hj⟩
theorem RP.start {n : Nat} {D : Nat → Nat → Int} (h : Dok n D) : RP n D 0 0 (flat n D) := by
  refine ⟨gen_flat h, ?_⟩
  by_cases h0 : ∀ i, i < n → D i i = 0
  · exact .inr ⟨D, Wf.start h.lo, h0, (mix_zero _ _ _).symm⟩
  · simp only [Classical.not_forall] at h0
    obtain ⟨i, hi, h0⟩ := h0
    have := h.dg i hi
    exact .inl ⟨i, hi, by rw [gt_flat _ hi hi]; omega⟩
theorem RP.step {n : Nat} {D : Nat → Nat → Int} {k i j : Nat} {b : List Int} (hk : k < n) (hi : i < n) (hj : j < n) (h : RP n D k (i * n + j) b) : RP n D k (i * n + j + 1) (b.set (i * n + j) (upR n b k i j)) := by
  obtain ⟨hg, hr⟩ := h
  have hs : ∀ a c, a < n → c < n → gt n (b.set (i * n + j) (upR n b k i j)) a c = if a = i ∧ c = j then upR n b k i j else gt n b a c := fun a c _ hc => gt_set _ hg.len hi hj hc
  have hle : ∀ a c, a < n → c < n → gt n (b.set (i * n + j) (upR n b k i j)) a c ≤ gt n b a c := fun a c ha hc => by
    rw [hs a c ha hc]
    split
    · rename_i e; obtain ⟨rfl, rfl⟩ := e; unfold upR; omega
    · exact Int.le_refl _
  refine ⟨⟨by rw [List.length_set]; exact hg.len, fun a c ha hc => ?_, fun a c ha hc => Int.le_trans (hle a c ha hc) (hg.le a c ha hc), fun v hv a c ha hc => ?_⟩, ?_⟩
  · rw [hs a c ha hc]
    have := hg.lo a c ha hc
    split
    · have := hg.lo i j hi hj; unfold upR; omega
    · exact this
  · rw [hs a c ha hc]
    have h1 := hg.so v hv
    split
    · rename_i e; obtain ⟨rfl, rfl⟩ := e
      have a1 := h1 a c ha hc; have a2 := h1 a k ha hk; have a3 := h1 k c hk hc
      unfold upR; omega
    · exact h1 a c ha hc
  · rcases hr with ⟨x, hx, hneg⟩ | ⟨M, hw, h0, rfl⟩
    · exact .inl ⟨x, hx, Int.lt_of_le_of_lt (hle x x hx hx) hneg⟩
    · refine .inr ⟨M, hw, h0, ?_⟩
      have e : upR n (mixL n (stp (-20001) k M) M (i * n + j)) k i j = stp (-20001) k M i j := by
        unfold upR
        rw [mix_new _ _ hi hj, mix_same (stp_row hw (h0 k hk) hk hi) _ hi hk, mix_same (stp_col hw (h0 k hk) hk hj) _ hk hj]; rfl
      rw [e]
      exact mix_set _ _ hi hj
theorem RP.next {n : Nat} {D : Nat → Nat → Int} {k : Nat} {b : List Int} (hD : Dok n D) (hk : k < n) (h : RP n D k (n * n) b) : RP n D (k + 1) 0 b := by
  obtain ⟨hg, hr⟩ := h
  refine ⟨hg, ?_⟩
  rcases hr with hneg | ⟨M, hw, h0, rfl⟩
  · exact .inl hneg
  · rw [mix_all]
    by_cases h2 : ∀ i, i < n → 0 ≤ stp (-20001) k M i i
    · exact .inr ⟨_, hw.step (by omega) hD.hi (h0 k hk) hk h2, fun i hi => by have := h2 i hi; have := h0 i hi; have := stp_le (c := -20001) (M := M) (k := k) (i := i) (j := i); omega, (mix_zero _ _ _).symm⟩
    · simp only [Classical.not_forall, Int.not_le] at h2
      obtain ⟨i, hi, h2⟩ := h2
      exact .inl ⟨i, hi, by rw [gt_flat _ hi hi]; exact h2⟩
theorem RP.neg {n : Nat} {b c : List Int} {k p : Nat} (hz : Zv n b) (h : RP n (dm n b) k p c) {x : Nat} (hx : x < n) (hneg : gt n c x x < 0) : cls n b = none :=
  (cls_none hz).2 (neg_empty h.1.so hx hneg)
theorem RP.fin {n : Nat} {b c : List Int} (hz : Zv n b) (h : RP n (dm n b) n 0 c) (hd : ∀ x, x < n → 0 ≤ gt n c x x) : cls n b = some c := by
  obtain ⟨hg, ⟨x, hx, hneg⟩ | ⟨M, hw, h0, rfl⟩⟩ := h
  · have := hd x hx; omega
  · rw [mix_zero]
    exact (ClR.some (hw.closed (by omega) (fun i j _ _ => dm_hi n b i j) h0)).cls hz
/-! ## 'out := Zone{z.N, append([]int{}, z.B...)}' in any order -/
structure CpI (w0 : World) (T : TypeId) (zb : Nat) (N u : Value) (l : List Int) (L : Nat → Bool) (vs : Nat → Value) (w : World) : Prop where
  q0 : L 0 = true → vs 0 = .pointer (some ⟨zb, 0, none⟩)
  q1 : L 1 = true → vs 1 = N
  q2 : L 2 = true → L 5 = false → ∃ g, vs 2 = .slice (some ⟨g, 0, none⟩) 0 0 ∧ Own w w0.heap.size (vs 2) 0 []
  q3 : L 3 = true → vs 3 = .pointer (some ⟨zb, 1, none⟩)
  q4 : L 4 = true → vs 4 = u
  q5 : L 5 = true → ∃ A c, vs 5 = .slice A l.length c ∧ Own w w0.heap.size (vs 5) l.length l
  q6 : L 6 = true → L 5 = true ∧ vs 6 = .agg #[N, vs 5]
  q7 : L 7 = true → ∃ nb, vs 7 = .pointer (some ⟨nb, 0, none⟩) ∧ w0.heap.size ≤ nb ∧ Bx w nb T (if L 8 = true then #[N, vs 5] else #[.int .i64 0, .slice none 0 0]) ∧ (L 2 = true → L 5 = false → (vs 2).ownBlock ≠ some nb) ∧ (L 5 = true → (vs 5).ownBlock ≠ some nb)
  bel : Below w0.heap.size w0 w
section
variable {w0 w w' : World} {T : TypeId} {zb : Nat} {N u : Value} {l : List Int} {L : Nat → Bool} {vs : Nat → Value}
theorem CpI.start : CpI w0 T zb N u l (fun _ => false) vs w0.drew := ⟨nopeB rfl, nopeB rfl, nopeB rfl, nopeB rfl, nopeB rfl, nopeB rfl, nopeB rfl, nopeB rfl, (Below.refl _ _).drew⟩
theorem CpI.t0 (hI : CpI w0 T zb N u l L vs w) : CpI w0 T zb N u l (updB L 0) (updV vs 0 (.pointer (some ⟨zb, 0, none⟩))) w := ⟨fun _ => rfl, hI.q1, hI.q2, hI.q3, hI.q4, hI.q5, hI.q6, hI.q7, hI.bel⟩
theorem CpI.t1 (hI : CpI w0 T zb N u l L vs w) : CpI w0 T zb N u l (updB L 1) (updV vs 1 N) w := ⟨hI.q0, fun _ => rfl, hI.q2, hI.q3, hI.q4, hI.q5, hI.q6, hI.q7, hI.bel⟩
theorem CpI.t3 (hI : CpI w0 T zb N u l L vs w) : CpI w0 T zb N u l (updB L 3) (updV vs 3 (.pointer (some ⟨zb, 1, none⟩))) w := ⟨hI.q0, hI.q1, hI.q2, fun _ => rfl, hI.q4, hI.q5, hI.q6, hI.q7, hI.bel⟩
theorem CpI.t4 (hI : CpI w0 T zb N u l L vs w) : CpI w0 T zb N u l (updB L 4) (updV vs 4 u) w := ⟨hI.q0, hI.q1, hI.q2, hI.q3, fun _ => rfl, hI.q5, hI.q6, hI.q7, hI.bel⟩
theorem CpI.t2 (hI : CpI w0 T zb N u l L vs w) (h5 : L 5 = false) : CpI w0 T zb N u l (updB L 2) (updV vs 2 (.slice (some ⟨w.heap.size, 0, none⟩) 0 0)) (w.alloc (.cells #[] 3)) :=
  ⟨hI.q0, hI.q1, fun _ _ => ⟨_, rfl, Own.mono (show Own (w.alloc (.cells #[] 3)) w.heap.size _ 0 [] from own_litS w _ _ 0 _ [] rfl rfl (by decide) rfl) hI.bel.size⟩, hI.q3, hI.q4, fun h => nopeB h5 h, hI.q6, fun h => by
    obtain ⟨nb, h1, h2, h3, h4, h6⟩ := hI.q7 h
    refine ⟨nb, h1, h2, h3.alloc _, fun _ _ e => ?_, h6⟩
    have h7 := h3.lt
    have e2 : w.heap.size = nb := by simpa [updV, Value.ownBlock] using e
    omega, hI.bel.trans ((al1 w _).mono hI.bel.size)⟩
theorem CpI.t6 (hI : CpI w0 T zb N u l L vs w) (h5 : L 5 = true) : CpI w0 T zb N u l (updB L 6) (updV vs 6 (.agg #[N, vs 5])) w :=
  ⟨hI.q0, hI.q1, hI.q2, hI.q3, hI.q4, hI.q5, fun _ => ⟨h5, rfl⟩, hI.q7, hI.bel⟩
theorem CpI.t7 (hI : CpI w0 T zb N u l L vs w) (h8 : L 8 = false) : CpI w0 T zb N u l (updB L 7) (updV vs 7 (.pointer (some ⟨w.heap.size, 0, none⟩))) (w.alloc (.cells #[.int .i64 0, .slice none 0 0] T)) :=
  ⟨hI.q0, hI.q1, fun h h5 => by obtain ⟨g, h1, h2⟩ := hI.q2 h h5; exact ⟨g, h1, h2.keep (al1 w _)⟩, hI.q3, hI.q4, fun h => by obtain ⟨A, c, h1, h2⟩ := hI.q5 h; exact ⟨A, c, h1, h2.keep (al1 w _)⟩, hI.q6,
    fun _ => ⟨_, rfl, hI.bel.size, by rw [updB_ne L (by decide), h8, if_neg Bool.false_ne_true]; exact Bx.new w _ _, fun h h5 e => by
      obtain ⟨g, h1, h2⟩ := hI.q2 h h5
      have := World.ownsRow.lt h2 _ e
      omega, fun h e => by
      obtain ⟨A, c, h1, h2⟩ := hI.q5 h
      have := World.ownsRow.lt h2 _ e
      omega⟩, hI.bel.trans ((al1 w _).mono hI.bel.size)⟩
theorem CpI.t8 (hI : CpI w0 T zb N u l L vs w) (h7 : L 7 = true) (h5 : L 5 = true) {nb : Nat} (hv : vs 7 = .pointer (some ⟨nb, 0, none⟩)) : CpI w0 T zb N u l (updB L 8) (updV vs 8 undef) (w.setRow nb #[N, vs 5]) := by
  obtain ⟨nb', h1, h2, h3, hn2, hne⟩ := hI.q7 h7
  obtain rfl : nb' = nb := by rw [hv] at h1; simpa using h1.symm
  exact ⟨hI.q0, hI.q1, fun _ h => nopeB h h5, hI.q3, hI.q4, fun h => by
    obtain ⟨A, c, e1, e2⟩ := hI.q5 h
    exact ⟨A, c, e1, e2.rowO (hne h)⟩, hI.q6, fun _ => ⟨nb', h1, h2, h3.row, hn2, hne⟩, below_setRow hI.bel h2 _⟩
theorem CpI.fin (hI : CpI w0 T zb N u l L vs w) (h : ∀ i, i < 9 → L i = true) : ∃ nb A c, vs 7 = .pointer (some ⟨nb, 0, none⟩) ∧ w0.heap.size ≤ nb ∧ Bx w nb T #[N, .slice A l.length c] ∧ Own w w0.heap.size (.slice A l.length c) l.length l ∧ (Value.slice A l.length c).ownBlock ≠ some nb ∧ Below w0.heap.size w0 w := by
  obtain ⟨A, c, e1, e2⟩ := hI.q5 (h 5 (by decide))
  obtain ⟨nb, h1, h2, h3, -, hne⟩ := hI.q7 (h 7 (by decide))
  have h4 := hne (h 5 (by decide))
  rw [if_pos (h 8 (by decide))] at h3
  rw [e1] at e2 h3 h4
  exact ⟨nb, A, c, h1, h2, h3, e2, h4, hI.bel⟩
/-- The append. -/
theorem stepI_cp {P : Program} {ops : Array Oper} {Q : Exit → Act → World → Prop} {o : Oper} {a : Act} {s q : Nat} {t : TypeId} (hI : CpI w0 T zb N u l L vs w)
    (hu : P.underlying t = some (.slice 3)) (hinfo : (P.info? 3).map (fun i => (i.zero, i.size, i.bytes)) = some (some (.int .i64 0), 1, 8)) (hg : o.guard = none)
    (ho : o.op = .call { callee := .builtin .append, args := #[.tmp s, .tmp q], argTypes := #[t, t] }) (hs : a.tmps[s]?.getD undef = vs 2) (hq : a.tmps[q]?.getD undef = u)
    (hsl : Sl iv w0 u l) (h0 : 0 < l.length) (hl : l.length ≤ 1000000000) (h2 : L 2 = true) (h5 : L 5 = false) (h6 : L 6 = false) (h8 : L 8 = false) :
    StepI P ops Q (CpI w0 T zb N u l) L vs 5 o a w := by
  obtain ⟨i0, hi, hy0, hy1, hy2⟩ := info_parts hinfo
  obtain ⟨g, hv2, hown⟩ := hI.q2 h2 h5
  rw [hv2] at hown hs
  have h1 : w.ownsRow w0.heap.size 3 1 (.slice (some ⟨g, 0, none⟩) 0 0) 0 [] := hown
  rcases hsl.below hI.bel with ⟨-, h⟩ | ⟨ad, c, hu2, hc, hcell⟩
  · rw [h] at h0; exact absurd h0 (Nat.lt_irrefl _)
  refine stepI_on (by simp [Region.wanted, hg]) (wp_append_lies w (.tmp s) (.tmp q) t ho w0.heap.size 3 i0 _ 1 8 hu hi hy0 hy1 hy2 rfl (by omega) _ 0 [] (by simp [Act.eval, hs]) h1 ad l.length c (l.map iv) (by simp [Act.eval, hq, hu2]) (by simp) ?_ ?_ h0 (by unfold maxLen; omega) (by omega) hI.bel.size w.heap.size rfl ?_)
  · intro k v hk
    rw [List.getElem?_map] at hk
    cases hb : l[k]? with
    | none => rw [hb] at hk; cases hk
    | some b => rw [hb] at hk; cases hk; exact hcell k b hb
  · intro v hv
    rw [List.mem_map] at hv
    obtain ⟨x, -, rfl⟩ := hv
    rfl
  · intro g2 cap w3 hown3 hgr hg2 _
    have hgb : ∀ k, (Value.slice (some ⟨g, 0, none⟩) 0 0).ownBlock = some k → w0.heap.size ≤ k ∧ k < w.heap.size := fun k e => by have := World.ownsRow.lt h1 k e; omega
    have hbel : Below w0.heap.size w w3 := ⟨hgr.os, hgr.tape, hgr.output, hgr.size, fun k hk => hgr.block k (by have := hI.bel.size; omega) fun eq => by have := hgb k eq.symm; omega⟩
    rw [Nat.zero_add, List.nil_append] at hown3
    refine ⟨_, rfl, hI.q0, hI.q1, fun _ h => nopeT h, hI.q3, hI.q4, fun _ => ⟨_, cap, by rw [updV_self, Nat.zero_add], by rw [updV_self, Nat.zero_add]; exact hown3⟩, fun h => nopeB h6 h, fun h => ?_, hI.bel.trans hbel⟩
    obtain ⟨nb, k1, k2, k3, k4, -⟩ := hI.q7 h
    have k5 := k4 h2 h5
    rw [hv2] at k5
    refine ⟨nb, k1, k2, ?_, fun _ h => nopeT h, fun _ => ?_⟩
    · rw [h8, if_neg Bool.false_ne_true] at k3
      rw [updB_ne L (by decide), h8, if_neg Bool.false_ne_true]
      exact (hgr.block nb k3.lt (fun e => k5 e.symm)).trans k3
    · rw [updV_self]
      intro e
      have e2 : g2 = nb := by simpa [Value.ownBlock] using e
      have := k3.lt
      rcases hg2 with e3 | e3
      · exact k5 (by rw [e3, e2])
      · omega
end
end Go.Proofs.Yteoddcamicmapaa
