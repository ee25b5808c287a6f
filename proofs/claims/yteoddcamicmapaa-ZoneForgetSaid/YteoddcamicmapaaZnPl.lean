/- Layer 13: plain facts of Sub, Join, Widen, Implies, Model. -/
import Derived.Test.YteoddcamicmapaaZnMo
namespace Go.Proofs.Yteoddcamicmapaa
open Go.RowKit

theorem zv_ali {m : Nat} {a b : List Int} (ha : Zv (m + 1) a) (hb : Zv (m + 1) b) : aliB (m : Int) a (m : Int) b = true := by
  have h1 := ha.val; have h2 := hb.val
  rw [show ((m + 1 : Nat) : Int) - 1 = (m : Int) by omega] at h1 h2
  unfold aliB; rw [h1, h2]; simp
theorem zv_val {m : Nat} {a : List Int} (ha : Zv (m + 1) a) : zvB (m : Int) a = true := by
  have h1 := ha.val
  rwa [show ((m + 1 : Nat) : Int) - 1 = (m : Int) by omega] at h1
/-- A zone is a part of another one. -/
def Subs (n : Nat) (a b : List Int) : Prop := ∀ c, cls n a = some c → ∀ i j, i < n → j < n → gt n c i j ≤ gt n b i j
theorem subR_iff {m : Nat} {a b : List Int} (ha : Zv (m + 1) a) (hb : Zv (m + 1) b) : subR (m : Int) a (m : Int) b = true ↔ Subs (m + 1) a b := by
  unfold subR
  rw [zv_ali ha hb, Bool.true_and, closeR_nat ha, show ((m : Int) + 1).toNat = m + 1 by omega]
  unfold Subs
  cases hc : cls (m + 1) a with
  | none => simp
  | some c =>
    constructor
    · intro h c' he
      cases he
      exact perB_iff.1 h
    · intro h
      exact perB_iff.2 (h c rfl)
theorem sub_sat {n : Nat} {a b : List Int} (ha : Zv n a) (h : Subs n a b) {u : Nat → Int} (hu : Sat n (dm n a) u) : Sat n (dm n b) u := by
  have hc := cls_ok ha
  cases hcl : cls n a with
  | none => rw [hcl] at hc; exact absurd hu (hc u)
  | some c =>
    have hi := cls_is ha hcl
    intro i j hi1 hj1
    have h1 := hi.so u hu i j hi1 hj1
    have h2 := h c hcl i j hi1 hj1
    have h3 := hi.hi hi1 hj1
    unfold dm; omega
theorem sat_sub {n : Nat} {a b : List Int} (ha : Zv n a) (h : ∀ u, Sat n (dm n a) u → Sat n (dm n b) u) : Subs n a b := by
  intro c hcl i j hi1 hj1
  have hi := cls_is ha hcl
  have h1 := h _ (hi.satD (hi.sat hj1)) i j hi1 hj1
  have h2 := hi.dg j hj1
  unfold dm at h1; omega
theorem cls_none {n : Nat} {a : List Int} (ha : Zv n a) : cls n a = none ↔ ∀ u, ¬ Sat n (dm n a) u := by
  have hc := cls_ok ha
  constructor
  · intro h; rw [h] at hc; exact hc
  · intro h
    cases hcl : cls n a with
    | none => rfl
    | some c =>
      have hi := cls_is ha hcl
      exact absurd (hi.satD (hi.sat (j := 0) (by have := ha.pos; omega))) (h _)
theorem cls_sat {n : Nat} {a c : List Int} (ha : Zv n a) (hc : cls n a = some c) (u : Nat → Int) : Sat n (gt n c) u ↔ Sat n (dm n a) u :=
  have hi := cls_is ha hc
  ⟨fun h => hi.satD h, fun h => hi.so u h⟩
theorem subs_refl {n : Nat} {a : List Int} (ha : Zv n a) : Subs n a a := sat_sub ha fun _ h => h
theorem wi_zv {n : Nat} {a c : List Int} (ha : Zv n a) : Zv n (flat n (wiB n a c)) :=
  ⟨ha.pos, ha.few, flat_len _ _, fun i j hi hj => by
    rw [gt_flat _ hi hj]; unfold wiB
    have := ha.lo i j hi hj; have := fuB_lo i j
    split <;> omega, fun i j hi hj => by
    rw [gt_flat _ hi hj]; unfold wiB
    have := ha.hi i j hi hj; have := fuB_hi i j
    split <;> omega⟩
theorem wi_ge {n : Nat} {a c : List Int} {i j : Nat} (hi : i < n) (hj : j < n) (hf : gt n c i j ≤ fuB i j) : gt n c i j ≤ gt n (flat n (wiB n a c)) i j := by
  rw [gt_flat _ hi hj]; unfold wiB
  split <;> omega
theorem wi_dm {n : Nat} {a c : List Int} {i j : Nat} (hi : i < n) (hj : j < n) : dm n a i j ≤ gt n (flat n (wiB n a c)) i j := by
  rw [gt_flat _ hi hj]; unfold wiB dm
  split <;> omega
/-- How many bounds are less than those of the full zone. -/
def potB (n : Nat) (a : List Int) : Nat := (List.range (n * n)).countP fun p => decide (a.getD p 0 < fuB (p / n) (p % n))
theorem pot_le (n : Nat) (a : List Int) : potB n a ≤ n * n := by
  have := List.countP_le_length (p := fun p => decide (a.getD p 0 < fuB (p / n) (p % n))) (l := List.range (n * n))
  rwa [List.length_range] at this
theorem countP_lt {l : List Nat} {p q : Nat → Bool} (h : ∀ x ∈ l, q x = true → p x = true) {x : Nat} (hx : x ∈ l) (hp : p x = true) (hq : q x = false) : l.countP q < l.countP p := by
  induction l with
  | nil => cases hx
  | cons y l ih =>
    rw [List.countP_cons, List.countP_cons]
    have hm : l.countP q ≤ l.countP p := List.countP_mono_left fun z hz => h z (List.mem_cons_of_mem _ hz)
    rcases List.mem_cons.1 hx with rfl | hx
    · rw [hp, hq]; simp; omega
    · have h1 := ih (fun z hz => h z (List.mem_cons_of_mem _ hz)) hx
      have h2 := h y (by simp)
      cases hqy : q y with
      | false => simp; omega
      | true => rw [h2 hqy]; simp; omega
theorem pot_lt {n : Nat} {a c : List Int} {i j : Nat} (hi : i < n) (hj : j < n) (hc : ∀ i j, i < n → j < n → gt n c i j ≤ fuB i j) (h : gt n a i j < gt n c i j) : potB n (flat n (wiB n a c)) < potB n a := by
  have e : ∀ p, p < n * n → p / n * n + p % n = p := fun p _ => by rw [Nat.mul_comm]; exact Nat.div_add_mod p n
  have eg : ∀ (b : List Int) p, p < n * n → b.getD p 0 = gt n b (p / n) (p % n) := fun b p hp => by unfold gt; rw [e p hp]
  refine countP_lt (x := i * n + j) (fun p hp hq => ?_) (List.mem_range.2 (sq_lt hi hj)) ?_ ?_
  · have hp := List.mem_range.1 hp
    rw [decide_eq_true_iff] at hq ⊢
    rw [eg _ p hp] at hq ⊢
    rw [gt_flat _ (sq_row hp) (sq_col hp)] at hq
    unfold wiB at hq
    split at hq <;> omega
  · rw [decide_eq_true_iff, sq_div hj, sq_mod hj]
    have := hc i j hi hj
    show gt n a i j < _
    omega
  · rw [decide_eq_false_iff_not, sq_div hj, sq_mod hj]
    show ¬ gt n (flat n (wiB n a c)) i j < _
    rw [gt_flat _ hi hj]; unfold wiB
    rw [if_neg (by omega)]
    omega
/-- Where ZoneStops stands: how often the zone has changed. -/
def StI (n : Nat) (a : List Int) (ch : Nat) : Prop := if cls n a = none then ch = 0 else ch + potB n a ≤ n * n + 1
theorem StI.start (n : Nat) (a : List Int) : StI n a 0 := by
  unfold StI
  split
  · rfl
  · have := pot_le n a; omega
theorem StI.fin {n ch : Nat} {a : List Int} (h : StI n a ch) : ch ≤ n * n + 1 := by
  unfold StI at h
  split at h <;> omega
/-- One step of widening. -/
theorem wid_step {m ch : Nat} {a z : List Int} (ha : Zv (m + 1) a) (hz : Zv (m + 1) z) (hs : StI (m + 1) a ch) :
    ∃ a', widZ (m : Int) a (m : Int) z = (((m : Int), a'), .int .i64 0) ∧ Zv (m + 1) a' ∧ subR (m : Int) a (m : Int) a' = true ∧ subR (m : Int) z (m : Int) a' = true ∧
      StI (m + 1) a' (ch + if subR (m : Int) a' (m : Int) a = true then 0 else 1) := by
  have hali := zv_ali ha hz
  cases hcz : cls (m + 1) z with
  | none =>
    refine ⟨a, widZ_1 hali ((closeR_nat hz).trans hcz), ha, (subR_iff ha ha).2 (subs_refl ha), (subR_iff hz ha).2 (fun c hc => by rw [hcz] at hc; cases hc), ?_⟩
    rw [if_pos ((subR_iff ha ha).2 (subs_refl ha))]
    exact hs
  | some c =>
    have hic := cls_is hz hcz
    have hvc := cls_zv hz hcz
    cases hca : cls (m + 1) a with
    | none =>
      refine ⟨c, widZ_2 hali ((closeR_nat hz).trans hcz) ((closeR_nat ha).trans hca), hvc, (subR_iff ha hvc).2 (fun d hd => by rw [hca] at hd; cases hd), (subR_iff hz hvc).2 (fun d hd => by rw [hcz] at hd; cases hd; exact fun _ _ _ _ => Int.le_refl _), ?_⟩
      unfold StI at hs ⊢
      rw [if_pos hca] at hs
      have hne : cls (m + 1) c ≠ none := fun h => by
        have := (cls_none hvc).1 h _ (show Sat (m + 1) (dm (m + 1) c) (fun x => gt (m + 1) c x 0) from fun i j hi hj => by
          have h1 := hic.sat (j := 0) (by omega) i j hi hj
          have h2 := hic.hi hi hj
          unfold dm; omega)
        exact this
      rw [if_neg hne]
      have := pot_le (m + 1) c
      split <;> omega
    | some d =>
      have hid := cls_is ha hca
      have hw := wi_zv (c := c) ha
      have h1 : Subs (m + 1) a (flat (m + 1) (wiB (m + 1) a c)) := sat_sub ha fun u hu i j hi hj => by
        have h1 := hu i j hi hj
        have h2 := wi_dm (a := a) (c := c) hi hj
        unfold dm at h1 h2 ⊢; omega
      have h2 : Subs (m + 1) z (flat (m + 1) (wiB (m + 1) a c)) := fun e he i j hi hj => by
        rw [hcz] at he; cases he
        exact wi_ge hi hj (hic.hi hi hj)
      refine ⟨_, widZ_3 hali ((closeR_nat hz).trans hcz) ((closeR_nat ha).trans hca), hw, (subR_iff ha hw).2 h1, (subR_iff hz hw).2 h2, ?_⟩
      unfold StI at hs ⊢
      rw [if_neg (by rw [hca]; exact Option.some_ne_none _)] at hs
      have hne : cls (m + 1) (flat (m + 1) (wiB (m + 1) a c)) ≠ none := fun h =>
        (cls_none hw).1 h _ (sub_sat ha h1 (hid.satD (hid.sat (j := 0) (by omega))))
      rw [if_neg hne]
      by_cases hch : ∃ i j, i < m + 1 ∧ j < m + 1 ∧ gt (m + 1) a i j < gt (m + 1) c i j
      · obtain ⟨i, j, hi, hj, hlt⟩ := hch
        have := pot_lt hi hj (fun i j hi hj => hic.hi hi hj) hlt
        split <;> omega
      · have e : flat (m + 1) (wiB (m + 1) a c) = a := sq_ext (flat_len _ _) ha.len fun i j hi hj => by
          rw [gt_flat _ hi hj]; unfold wiB
          rw [if_pos (Int.not_lt.1 fun h => hch ⟨i, j, hi, hj, h⟩)]
        rw [e, if_pos ((subR_iff ha ha).2 (subs_refl ha))]
        exact hs
end Go.Proofs.Yteoddcamicmapaa
