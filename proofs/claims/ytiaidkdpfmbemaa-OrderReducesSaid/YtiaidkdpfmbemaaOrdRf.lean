/- The reduction: plain facts. -/
import Derived.Test.YtiaidkdpfmbemaaOrdRed
import Derived.Test.YtiaidkdpfmbemaaOrdPo
namespace Go.Proofs.Ytiaidkdpfmbemaa
open Go.RowKit

section
variable {n : Nat} {es : List (Int × Int)}
theorem Pk_sub {E B : Nat → Nat → Bool} {n : Nat} (hE : ∀ a b, E a b = true → B a b = true) (tr : ∀ a m b, m < n → B a m = true → B m b = true → B a b = true) : ∀ k, k ≤ n → ∀ a b, Pk E k a b = true → B a b = true
  | 0, _, a, b, h => hE a b h
  | k + 1, hk, a, b, h => by
    rw [Pk, Bool.or_eq_true, Bool.and_eq_true] at h
    rcases h with h | ⟨h1, h2⟩
    · exact Pk_sub hE tr k (by omega) a b h
    · exact tr a k b (by omega) (Pk_sub hE tr k (by omega) a k h1) (Pk_sub hE tr k (by omega) k b h2)
theorem mem_rowL {a b : Nat} {p : Int × Int} : p ∈ rowL n es a b ↔ ∃ b', b' < b ∧ rd n es a b' = true ∧ p = ((a : Int), (b' : Int)) := by
  unfold rowL
  rw [List.mem_map]
  constructor
  · rintro ⟨b', hb, rfl⟩
    rw [List.mem_filter, List.mem_range] at hb
    exact ⟨b', hb.1, hb.2, rfl⟩
  · rintro ⟨b', h1, h2, rfl⟩
    exact ⟨b', List.mem_filter.2 ⟨List.mem_range.2 h1, h2⟩, rfl⟩
theorem mem_redL {k : Nat} {p : Int × Int} : p ∈ redL n es k ↔ ∃ a b, a < k ∧ b < n ∧ rd n es a b = true ∧ p = ((a : Int), (b : Int)) := by
  unfold redL
  rw [List.mem_flatMap]
  constructor
  · rintro ⟨a, ha, hp⟩
    obtain ⟨b, h1, h2, h3⟩ := mem_rowL.1 hp
    exact ⟨a, b, List.mem_range.1 ha, h1, h2, h3⟩
  · rintro ⟨a, b, h0, h1, h2, h3⟩
    exact ⟨a, List.mem_range.2 h0, mem_rowL.2 ⟨b, h1, h2, h3⟩⟩
theorem rowL_nodup (a b : Nat) : (rowL n es a b).Nodup := by
  unfold rowL
  refine List.pairwise_map.2 ?_
  refine List.Pairwise.imp ?_ (List.Pairwise.filter _ List.pairwise_lt_range)
  intro x y h e
  simp only [Prod.mk.injEq, true_and] at e
  omega
theorem redL_nodup : ∀ k, (redL n es k).Nodup
  | 0 => by simp [redL]
  | k + 1 => by
    rw [redL_succ, List.nodup_append]
    refine ⟨redL_nodup k, rowL_nodup _ _, fun p hp q hq e => ?_⟩
    obtain ⟨a, b, h0, _, _, h3⟩ := mem_redL.1 hp
    obtain ⟨b', _, _, h4⟩ := mem_rowL.1 hq
    rw [h3, h4, Prod.mk.injEq] at e
    omega
/-- Edges that are all of the order lead to nothing but the order. -/
theorem Eg_mem {R : List (Int × Int)} {a b : Nat} (h : Eg R a b = true) : ((a : Int), (b : Int)) ∈ R := by
  unfold Eg at h
  rw [List.any_eq_true] at h
  obtain ⟨p, hp, h2⟩ := h
  rw [Bool.and_eq_true, beq_iff_eq, beq_iff_eq] at h2
  have : p = ((a : Int), (b : Int)) := Prod.ext h2.1 h2.2
  rwa [← this]
theorem sub_bf {R : List (Int × Int)} (hR : ∀ p ∈ R, p ∈ redL n es n) {a b : Nat} : ∀ k, k ≤ n → Pk (Eg R) k a b = true → Bf n es a b = true := fun k hk h =>
  Pk_sub (n := n) (B := fun a b => Bf n es a b) (fun a b h => by
    obtain ⟨a', b', _, _, h2, h3⟩ := mem_redL.1 (hR _ (Eg_mem h))
    rw [Prod.mk.injEq] at h3
    obtain rfl : a = a' := by omega
    obtain rfl : b = b' := by omega
    unfold rd at h2
    rw [Bool.and_eq_true] at h2
    exact h2.1) (fun a m b hm h1 h2 => Bf.trans (N := (n : Int)) (by omega) h1 h2) k hk a b h
theorem red_sub {a b : Nat} (h : Bf n (redL n es n) a b = true) : Bf n es a b = true := by
  unfold Bf at h
  rw [Int.toNat_natCast] at h
  exact sub_bf (fun p hp => hp) n (Nat.le_refl _) h
theorem red_sup (hc : acyc (n : Int) es = true) (hn : n ≤ 60) : ∀ (m a b : Nat), pst n es b + (2 ^ 60 - pst n es a) ≤ m → a < n → b < n → Bf n es a b = true → Bf n (redL n es n) a b = true := by
  have hlt : ∀ x, pst (n : Int) es x < 2 ^ 60 := fun x => Nat.lt_of_lt_of_le (setOf_lt _ _) (Nat.pow_le_pow_right (by decide) (by omega))
  intro m
  induction m with
  | zero =>
    intro a b hm ha hb h
    have := hlt a
    omega
  | succ m ih =>
    intro a b hm ha hb h
    cases hbt : btw n es a b with
    | false =>
      refine Bf.edge (mem_redL.2 ⟨a, b, ha, hb, ?_, rfl⟩)
      unfold rd; rw [h, hbt]; rfl
    | true =>
      unfold btw at hbt
      rw [List.any_eq_true] at hbt
      obtain ⟨j, hj, h2⟩ := hbt
      have hj := List.mem_range.1 hj
      rw [Bool.and_eq_true] at h2
      have l1 := pst_less (N := (n : Int)) hc (x := b) (y := j) (by omega) h2.1
      have l2 := pst_less (N := (n : Int)) hc (x := j) (y := a) (by omega) h2.2
      have l3 := hlt j
      have l4 := hlt a
      exact Bf.trans (N := (n : Int)) (by omega) (ih a j (by omega) ha hj h2.2) (ih j b (by omega) hj hb h2.1)
theorem red_bf (hc : acyc (n : Int) es = true) (hn : n ≤ 60) {a b : Nat} (ha : a < n) (hb : b < n) : Bf n (redL n es n) a b = Bf n es a b := by
  rw [Bool.eq_iff_iff]
  exact ⟨red_sub, red_sup hc hn _ a b (Nat.le_refl _) ha hb⟩
theorem red_val (hv : valO n es = true) : valO n (redL n es n) = true := by
  obtain ⟨⟨n0, n1, n2⟩, _, hc⟩ := valO_parts hv
  have hn : n ≤ 60 := by omega
  have hlen := redL_len n es n
  have hnn : n * n ≤ 60 * 60 := Nat.mul_le_mul hn hn
  refine valO_ok ⟨n0, n1, by omega⟩ (fun p hp => ?_) (fun i hi => ?_)
  · obtain ⟨a, b, h0, h1, _, rfl⟩ := mem_redL.1 hp
    exact ⟨inB_iff.2 ⟨by simp, by simp; omega⟩, inB_iff.2 ⟨by simp, by simp; omega⟩⟩
  · cases h : Bf n (redL n es n) i i
    · rfl
    · have := red_sub h
      rw [Bf.irr hc hi] at this
      cases this
theorem less_not {R : List (Int × Int)} (hnd : R.Nodup) {i : Nat} (hi : i < R.length) : R[i] ∉ R.take i ++ R.drop (i + 1) := by
  have e : R = R.take i ++ R[i] :: R.drop (i + 1) := by rw [List.getElem_cons_drop, List.take_append_drop]
  have h2 := hnd
  rw [e, List.nodup_append] at h2
  obtain ⟨_, h3, h4⟩ := h2
  rw [List.nodup_cons] at h3
  intro h
  rcases List.mem_append.1 h with h5 | h5
  · exact h4 _ h5 _ (List.mem_cons_self ..) rfl
  · exact h3.1 h5
theorem less_path {R : List (Int × Int)} (hR : ∀ p ∈ R, p ∈ redL n es n) {a b : Nat} : ∀ k, k ≤ n → Pk (Eg R) k a b = true → Eg R a b = true ∨ ∃ m, m < n ∧ Bf n es a m = true ∧ Bf n es m b = true
  | 0, _, h => .inl h
  | k + 1, hk, h => by
    rw [Pk, Bool.or_eq_true, Bool.and_eq_true] at h
    rcases h with h | ⟨h1, h2⟩
    · exact less_path hR k (by omega) h
    · exact .inr ⟨k, by omega, sub_bf hR k (by omega) h1, sub_bf hR k (by omega) h2⟩
/-- Without one of its edges the reduction would not have it. -/
theorem red_need {i : Nat} (hi : i < (redL n es n).length) : befO n ((redL n es n).take i ++ (redL n es n).drop (i + 1)) ((redL n es n)[i]).1 ((redL n es n)[i]).2 = false := by
  obtain ⟨a, b, ha, hb, hrd, hp⟩ := mem_redL.1 (List.getElem_mem hi)
  have hno := less_not (redL_nodup (n := n) (es := es) n) hi
  rw [hp] at hno ⊢
  generalize hR : (redL n es n).take i ++ (redL n es n).drop (i + 1) = R at *
  have hRs : ∀ p ∈ R, p ∈ redL n es n := by
    intro p h
    rw [← hR] at h
    rcases List.mem_append.1 h with h | h
    · exact List.mem_of_mem_take h
    · exact List.mem_of_mem_drop h
  have hbf : Bf n R a b = false := by
    cases h : Bf n R a b
    · rfl
    · exfalso
      unfold Bf at h
      rw [Int.toNat_natCast] at h
      rcases less_path hRs n (Nat.le_refl _) h with h1 | ⟨m, hm, h1, h2⟩
      · exact hno (Eg_mem h1)
      · unfold rd at hrd
        rw [Bool.and_eq_true] at hrd
        have : btw n es a b = true := by
          unfold btw
          rw [List.any_eq_true]
          exact ⟨m, List.mem_range.2 hm, by rw [h2, h1]; rfl⟩
        rw [this] at hrd
        cases hrd.2
  unfold befO
  simp only [Int.toNat_natCast, hbf, Bool.and_false]
end
end Go.Proofs.Ytiaidkdpfmbemaa
