/- The least linear extension: plain facts. -/
import Derived.Test.YtcekfgahhicdcaaOrdSeq
namespace Go.Proofs.Ytcekfgahhicdcaa
open Go.RowKit

section
variable {n : Nat} {es : List (Int × Int)}
/-- The k-th event of the least linear extension, and the word of those in front. -/
def eK (n : Nat) (es : List (Int × Int)) (k : Nat) : Nat := nxW (psts (n : Int) es) (liW (psts (n : Int) es) k).2
def sK (n : Nat) (es : List (Int × Int)) (k : Nat) : Nat := (liW (psts (n : Int) es) k).2
theorem sK_zero : sK n es 0 = 0 := rfl
theorem sK_succ (k : Nat) : sK n es (k + 1) = sK n es k ||| 2 ^ eK n es k := rfl
theorem Lk_map (n : Nat) (es : List (Int × Int)) (k : Nat) : Lk n es k = (List.range k).map fun i => ((eK n es i : Nat) : Int) := by
  induction k with
  | zero => rfl
  | succ k ih =>
    unfold Lk at ih ⊢
    rw [List.range_succ, List.map_append, ← ih, liW, List.map_append]
    rfl
theorem Lk_len (n : Nat) (es : List (Int × Int)) (k : Nat) : (Lk n es k).length = k := by rw [Lk_map]; simp
theorem Lk_at {k m : Nat} (h : k < (Lk n es m).length) : (Lk n es m)[k] = ((eK n es k : Nat) : Int) := by simp [Lk_map]
theorem Lk_take {k m : Nat} (h : k ≤ m) : (Lk n es m).take k = Lk n es k := by
  rw [Lk_map, Lk_map, ← List.map_take, List.take_range, Nat.min_eq_left h]
section
variable (hc : acyc (n : Int) es = true)
include hc
theorem eK_nx {k : Nat} (hk : k < n) : eK n es k < n ∧ rdyW (psts (n : Int) es) (sK n es k) (eK n es k) = true := by
  have hf := li_facts (N := (n : Int)) hc k (by omega)
  have := nx_is (N := (n : Int)) hc (s := (liW (psts (n : Int) es) k).2) (by omega)
  rw [Int.toNat_natCast] at this
  exact ⟨this.1, this.2.1⟩
theorem eK_out {k : Nat} (hk : k < n) : (sK n es k).testBit (eK n es k) = false := rdy_free (eK_nx hc hk).2
theorem eK_past {k i : Nat} (hk : k < n) (hi : i < n) (h : Bf n es i (eK n es k) = true) : (sK n es k).testBit i = true := by
  obtain ⟨h1, h2⟩ := eK_nx hc hk
  exact ((rdy_iff (N := (n : Int)) (by omega)).1 h2).2 i (by omega) h
end
theorem sK_mono {k m i : Nat} (h : k ≤ m) (hb : (sK n es k).testBit i = true) : (sK n es m).testBit i = true := by
  obtain ⟨d, rfl⟩ : ∃ d, m = k + d := ⟨m - k, by omega⟩
  clear h
  induction d with
  | zero => exact hb
  | succ d ih => rw [← Nat.add_assoc, sK_succ, or_bit, ih, Bool.true_or]
theorem eK_in {k m : Nat} (h : k < m) : (sK n es m).testBit (eK n es k) = true := by
  refine sK_mono (k := k + 1) (by omega) ?_
  rw [sK_succ, or_bit]; simp
section
variable (hc : acyc (n : Int) es = true)
include hc
theorem eK_inj {k m : Nat} (h : k < m) (hm : m < n) : eK n es k ≠ eK n es m := by
  intro e
  have h1 := eK_in (n := n) (es := es) h
  rw [e, eK_out hc hm] at h1
  cases h1
theorem eK_not {k m : Nat} (h : k < m) (hm : m < n) : Bf n es (eK n es m) (eK n es k) = false := by
  cases hb : Bf n es (eK n es m) (eK n es k)
  · rfl
  · have h1 := eK_past hc (by omega : k < n) (eK_nx hc hm).1 hb
    have h2 := sK_mono (m := m) (by omega) h1
    rw [eK_out hc hm] at h2
    cases h2
theorem inB_eK {k : Nat} (hk : k < n) : inB n ((eK n es k : Nat) : Int) = true := inB_iff.2 ⟨by omega, by have := (eK_nx hc hk).1; omega⟩
theorem isW_step {l : List Int} {k : Nat} (hk : k < n) (hl : k < l.length) (he : l[k] = ((eK n es k : Nat) : Int)) : isW n (psts (n : Int) es) (l.drop k) (sK n es k) = isW n (psts (n : Int) es) (l.drop (k + 1)) (sK n es (k + 1)) := by
  rw [isW_drop hl, he, inB_eK hc hk, Bool.true_and, Int.toNat_natCast, (eK_nx hc hk).2, Bool.true_and, sK_succ]
theorem isW_from {l : List Int} {i : Nat} (hi : i ≤ n) (hl : i ≤ l.length) (he : ∀ k (h : k < l.length), k < i → l[k] = ((eK n es k : Nat) : Int)) : isW n (psts (n : Int) es) l 0 = isW n (psts (n : Int) es) (l.drop i) (sK n es i) := by
  induction i with
  | zero => rfl
  | succ i ih => rw [ih (by omega) (by omega) (fun k h hk => he k h (by omega)), isW_step hc (by omega) (by omega) (he i (by omega) (by omega))]
theorem isW_Lk : isW n (psts (n : Int) es) (Lk n es n) 0 = true := by
  rw [isW_from hc (i := n) (Nat.le_refl _) (by rw [Lk_len]; exact Nat.le_refl _) (fun k h _ => Lk_at h)]
  rw [List.drop_of_length_le (by rw [Lk_len]; exact Nat.le_refl _)]
  rfl
theorem seW_Lk {m : Nat} (hm : m ≤ n) {k : Nat} (hk : k ≤ m) : seW n (Lk n es m) 0 = seW n ((Lk n es m).drop k) (sK n es k) := by
  induction k with
  | zero => rfl
  | succ k ih =>
    rw [ih (by omega), seW_drop (by rw [Lk_len]; omega), Lk_at, inB_eK hc (by omega), Bool.true_and, Int.toNat_natCast, eK_out hc (by omega), if_pos (show (!false) = true from rfl), sK_succ]
theorem cutW_Lk {m : Nat} (hm : m ≤ n) : cutW n (psts (n : Int) es) (Lk n es m) = true := by
  have h1 : seW n (Lk n es m) 0 = some (sK n es m) := by
    rw [seW_Lk hc hm (Nat.le_refl m), List.drop_of_length_le (by rw [Lk_len]; exact Nat.le_refl _)]; rfl
  unfold cutW
  rw [h1]
  simp only
  rw [List.all_eq_true]
  intro x hx
  rw [Lk_map] at hx
  obtain ⟨k, hk, rfl⟩ := List.mem_map.1 hx
  have hk := List.mem_range.1 hk
  rw [decide_eq_true_iff, sdiff_zero]
  intro i hi
  rw [Int.toNat_natCast, psts_at (by have := (eK_nx hc (show k < n by omega)).1; omega), pst_bit', Bool.and_eq_true, decide_eq_true_iff, Int.toNat_natCast] at hi
  exact sK_mono (by omega) (eK_past hc (by omega) hi.1 hi.2)
/-- Two neighbours exchanged. -/
theorem isW_swap {i : Nat} (hi : i + 1 < n) : isW n (psts (n : Int) es) (((Lk n es n).set i ((eK n es (i + 1) : Nat) : Int)).set (i + 1) ((eK n es i : Nat) : Int)) 0 = !Bf n es (eK n es i) (eK n es (i + 1)) := by
  obtain ⟨a0, a1⟩ := eK_nx hc (show i < n by omega)
  obtain ⟨b0, b1⟩ := eK_nx hc hi
  have hl := Lk_len n es n
  rw [isW_from hc (i := i) (by omega) (by simp; omega) (fun k h hk => by
    simp only [List.length_set] at h
    rw [List.getElem_set_ne (by omega), List.getElem_set_ne (by omega), Lk_at])]
  have hne := eK_inj hc (Nat.lt_succ_self i) hi
  have hin := inB_eK hc hi
  have hin2 := inB_eK hc (show i < n by omega)
  rw [isW_drop (by simp; omega), List.getElem_set_ne (by omega), List.getElem_set_self, hin, Bool.true_and, Int.toNat_natCast]
  rw [isW_drop (by simp; omega), List.getElem_set_self, hin2, Bool.true_and, Int.toNat_natCast]
  have hdrop : (((Lk n es n).set i ((eK n es (i + 1) : Nat) : Int)).set (i + 1) ((eK n es i : Nat) : Int)).drop (i + 1 + 1) = (Lk n es n).drop (i + 1 + 1) := by
    rw [List.drop_set_of_lt (by omega), List.drop_set_of_lt (by omega)]
  have hs : sK n es i ||| 2 ^ eK n es (i + 1) ||| 2 ^ eK n es i = sK n es (i + 1 + 1) := by
    rw [sK_succ, sK_succ, Nat.or_assoc, Nat.or_assoc, Nat.or_comm (2 ^ eK n es (i + 1))]
  have htail : isW n (psts (n : Int) es) ((Lk n es n).drop (i + 1 + 1)) (sK n es (i + 1 + 1)) = true := by
    rw [← isW_from hc (l := Lk n es n) (by omega) (by omega) (fun k h _ => Lk_at h)]
    exact isW_Lk hc
  rw [hdrop, hs, htail, Bool.and_true]
  cases hb : Bf n es (eK n es i) (eK n es (i + 1)) with
  | true =>
    have : rdyW (psts (n : Int) es) (sK n es i) (eK n es (i + 1)) = false := by
      rw [Bool.eq_false_iff]
      intro h
      have h2 := ((rdy_iff (N := (n : Int)) (by omega)).1 h).2 (eK n es i) (by omega) hb
      rw [eK_out hc (show i < n by omega)] at h2
      cases h2
    rw [this]; rfl
  | false =>
    have h1 : rdyW (psts (n : Int) es) (sK n es i) (eK n es (i + 1)) = true := by
      obtain ⟨c1, c2⟩ := (rdy_iff (N := (n : Int)) (by omega)).1 b1
      refine (rdy_iff (N := (n : Int)) (by omega)).2 ⟨?_, fun j hj hjb => ?_⟩
      · cases hh : (sK n es i).testBit (eK n es (i + 1))
        · rfl
        · have := sK_mono (n := n) (es := es) (Nat.le_succ i) hh
          rw [c1] at this; cases this
      · have := c2 j hj hjb
        rw [sK_succ, or_bit, Bool.or_eq_true, decide_eq_true_iff] at this
        rcases this with h | h
        · exact h
        · subst h; rw [hb] at hjb; cases hjb
    have h2 : rdyW (psts (n : Int) es) (sK n es i ||| 2 ^ eK n es (i + 1)) (eK n es i) = true := by
      obtain ⟨c1, c2⟩ := (rdy_iff (N := (n : Int)) (by omega)).1 a1
      refine (rdy_iff (N := (n : Int)) (by omega)).2 ⟨?_, fun j hj hjb => ?_⟩
      · rw [or_bit, c1, Bool.false_or, decide_eq_false (fun h => hne h.symm)]
      · rw [or_bit, c2 j hj hjb, Bool.true_or]
    rw [h1, h2]; rfl
end
end
end Go.Proofs.Ytcekfgahhicdcaa
