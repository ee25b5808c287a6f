/- The reference's Few, Before and Valid (tools/nrv_gen.py). -/
import Derived.Test.YtockgbilbnheaaaDoorNfaAcc
namespace Go.Proofs.YtockgbilbnheaaaDoor
open Go.RowKit

theorem ret_b {a b : Bool} (h : a = b) : Ending.returned (.bool a) = .returned (.bool b) := by rw [h]
def fewA (S : Int) (a b c : Nat) : Bool := decide (S ≤ 12 ∧ a ≤ 15 ∧ b ≤ 15 ∧ c ≤ 40)
set_option maxHeartbeats 1000000 in
theorem few_any (S : Int) (A1 A2 A3 : Option Addr) (n1 n2 n3 c1 c2 c3 : Nat) (w : World) : Calls Tryd.prog 6 #[.agg #[.int .i64 S, .slice A1 n1 c1, .slice A2 n2 c2, .slice A3 n3 c3]] w fun e w' => e = .returned (.bool (fewA S n1 n2 n3)) ∧ Below w.heap.size w w' := by
 obtain ⟨r, hr⟩ : ∃ r, r = fewA S n1 n2 n3 := ⟨_, rfl⟩
 rw [← hr]
 have HR := Lib.hid hr; clear hr
 unfold fewA at HR
 have hb := Lib.hid ((Below.refl _ w).alloc (Nat.le_refl _) (.cells #[.int .i64 S, .slice A1 n1 c1, .slice A2 n2 c2, .slice A3 n3 c3] 26))
 by_cases h1 : S ≤ 12
 ·by_cases h2 : n1 ≤ 15
  ·by_cases h3 : n2 ≤ 15
   ·go_enter Tryd.func6, Tryd.ntmps6
    go_wp2
    go_ret
    refine ⟨ret_b ?_, hb.out⟩
    rw [HR.out]
    by_cases h4 : n3 ≤ 40
    ·rw [decide_eq_true (show S ≤ 12 ∧ n1 ≤ 15 ∧ n2 ≤ 15 ∧ n3 ≤ 40 from ⟨h1, h2, h3, h4⟩)]; exact decide_eq_true (by omega)
    ·rw [decide_eq_false (show ¬ (S ≤ 12 ∧ n1 ≤ 15 ∧ n2 ≤ 15 ∧ n3 ≤ 40) from fun h => h4 h.2.2.2)]; exact decide_eq_false (by omega)
   ·have hr : r = false := by rw [HR.out]; exact decide_eq_false (fun h => h3 h.2.2.1)
    subst hr
    go_enter Tryd.func6, Tryd.ntmps6
    go_wp2
    go_ret
    exact ⟨rfl, hb.out⟩
  ·have hr : r = false := by rw [HR.out]; exact decide_eq_false (fun h => h2 h.2.1)
   subst hr
   go_enter Tryd.func6, Tryd.ntmps6
   go_wp2
   go_ret
   exact ⟨rfl, hb.out⟩
 ·have hr : r = false := by rw [HR.out]; exact decide_eq_false (fun h => h1 h.1)
  subst hr
  go_enter Tryd.func6, Tryd.ntmps6
  go_wp2
  go_ret
  exact ⟨rfl, hb.out⟩
theorem fewA_lim {S : Int} {a b c : Nat} (h : fewA S a b c = true) : S ≤ 12 ∧ a ≤ 15 ∧ b ≤ 15 ∧ c ≤ 40 := by unfold fewA at h; simpa using h
instance (x y : Ac) : Decidable (LtA x y) := by unfold LtA; infer_instance
set_option maxHeartbeats 1000000 in
theorem rbefore_any (a0 a1 a2 b0 b1 b2 : Int) (w : World) : Calls Tryd.prog 21 #[.agg #[.int .i64 a0, .int .i64 a1, .int .i64 a2], .agg #[.int .i64 b0, .int .i64 b1, .int .i64 b2]] w fun e w' => e = .returned (.bool (decide (LtA (a0, a1, a2) (b0, b1, b2)))) ∧ Below w.heap.size w w' := by
 obtain ⟨r, hr⟩ : ∃ r, r = decide (LtA (a0, a1, a2) (b0, b1, b2)) := ⟨_, rfl⟩
 rw [← hr]
 have HR := Lib.hid hr; clear hr
 unfold LtA at HR
 dsimp only at HR
 have hb := Lib.hid (((Below.refl _ w).alloc (Nat.le_refl _) (.cells #[.int .i64 a0, .int .i64 a1, .int .i64 a2] 59)).alloc (by simp) (.cells #[.int .i64 b0, .int .i64 b1, .int .i64 b2] 59))
 by_cases h1 : a0 = b0
 ·by_cases h2 : a1 = b1
  ·have e1 : (a0 != b0) = false := by rw [bne_eq_false_iff_eq]; exact h1
   have e2 : (a1 != b1) = false := by rw [bne_eq_false_iff_eq]; exact h2
   have H1 := Lib.hid h1; have H2 := Lib.hid h2
   clear h1 h2
   go_enter Tryd.func21, Tryd.ntmps21
   go_wp2
   go_ret
   refine ⟨ret_b ?_, hb.out⟩
   have h1 := H1.out; have h2 := H2.out
   rw [HR.out]
   exact decide_eq_decide.2 (by omega)
  ·have e1 : (a0 != b0) = false := by rw [bne_eq_false_iff_eq]; exact h1
   have e2 : (a1 != b1) = true := by rw [bne_iff_ne]; exact h2
   have H1 := Lib.hid h1; have H2 := Lib.hid h2
   clear h1 h2
   go_enter Tryd.func21, Tryd.ntmps21
   go_wp2
   go_ret
   refine ⟨ret_b ?_, hb.out⟩
   have h1 := H1.out; have h2 := H2.out
   rw [HR.out]
   exact decide_eq_decide.2 (by omega)
 ·have e1 : (a0 != b0) = true := by rw [bne_iff_ne]; exact h1
  have H1 := Lib.hid h1
  clear h1
  go_enter Tryd.func21, Tryd.ntmps21
  go_wp2
  go_ret
  refine ⟨ret_b ?_, hb.out⟩
  have h1 := H1.out
  rw [HR.out]
  exact decide_eq_decide.2 (by omega)
/-- A start state, or an arc, as a valid automaton has it. -/
def OkS (S : Int) (st : List Int) (i : Nat) : Prop := 0 ≤ st.getD i 0 ∧ st.getD i 0 < S ∧ (0 < i → st.getD (i - 1) 0 < st.getD i 0)
def OkA (S : Int) (ar : List Ac) (i : Nat) : Prop := (0 ≤ (ar.getD i (0, 0, 0)).1 ∧ (ar.getD i (0, 0, 0)).1 < S) ∧ (0 ≤ (ar.getD i (0, 0, 0)).2.2 ∧ (ar.getD i (0, 0, 0)).2.2 < S) ∧ (0 ≤ (ar.getD i (0, 0, 0)).2.1 ∧ (ar.getD i (0, 0, 0)).2.1 ≤ 10000) ∧ (0 < i → LtA (ar.getD (i - 1) (0, 0, 0)) (ar.getD i (0, 0, 0)))
def VI (S : Int) (st : List Int) (fin : List Bool) (ar : List Ac) : Prop := (0 ≤ S ∧ S ≤ 200) ∧ (fin.length : Int) = S ∧ ar.length ≤ 2000 ∧ (∀ i, i < st.length → OkS S st i) ∧ ∀ i, i < ar.length → OkA S ar i
theorem chain {α : Type} {R : α → α → Prop} (ht : ∀ {x y z}, R x y → R y z → R x z) (d : α) : ∀ (l : List α), (∀ i, i < l.length → 0 < i → R (l.getD (i - 1) d) (l.getD i d)) → l.Pairwise R := by
 intro l h
 rw [List.pairwise_iff_getElem]
 intro i j hi hj hij
 obtain ⟨k, rfl⟩ : ∃ k, j = i + 1 + k := ⟨j - (i + 1), by omega⟩
 have key : ∀ k, i + 1 + k < l.length → R (l.getD i d) (l.getD (i + 1 + k) d) := by
  intro k
  induction k with
  | zero => intro hk; exact h (i + 1) hk (by omega)
  | succ k ih => intro hk; exact ht (ih (by omega)) (h (i + 1 + (k + 1)) hk (by omega))
 have := key k hj
 simpa [List.getD_eq_getElem?_getD, List.getElem?_eq_getElem hi, List.getElem?_eq_getElem hj] using this
theorem getD_mem {α : Type} {l : List α} {x d : α} (h : x ∈ l) : ∃ i, i < l.length ∧ l.getD i d = x := by
 obtain ⟨i, hi, rfl⟩ := List.mem_iff_getElem.1 h
 exact ⟨i, hi, by rw [List.getD_eq_getElem?_getD, List.getElem?_eq_getElem hi]; rfl⟩
theorem VI.vn {S : Int} {st : List Int} {fin : List Bool} {ar : List Ac} (h : VI S st fin ar) : ∃ n : Nat, S = n ∧ VN n st fin ar := by
 obtain ⟨⟨h0, h1⟩, h2, h3, h4, h5⟩ := h
 obtain ⟨n, rfl⟩ : ∃ n : Nat, S = n := ⟨S.toNat, by omega⟩
 refine ⟨n, rfl, by omega, by omega, ⟨?_, ?_, ?_, ?_, h3⟩, ?_, ?_⟩
 ·exact (chain (R := LtA) LtA.trans (0, 0, 0) ar fun i hi h0 => (h5 i hi).2.2.2 h0).imp fun h => cmpA_neg.2 h
 ·intro x hx; obtain ⟨i, hi, e⟩ := getD_mem (d := ((0 : Int), (0 : Int), (0 : Int))) hx; have := (h5 i hi).1; rw [e] at this; exact this
 ·intro x hx; obtain ⟨i, hi, e⟩ := getD_mem (d := ((0 : Int), (0 : Int), (0 : Int))) hx; have := (h5 i hi).2.2.1; rw [e] at this; exact this
 ·intro x hx; obtain ⟨i, hi, e⟩ := getD_mem (d := ((0 : Int), (0 : Int), (0 : Int))) hx; have := (h5 i hi).2.1; rw [e] at this; exact this
 ·intro x hx; obtain ⟨i, hi, e⟩ := getD_mem (d := (0 : Int)) hx; have := h4 i hi; unfold OkS at this; rw [e] at this; exact ⟨this.1, this.2.1⟩
 ·exact chain (R := fun x y : Int => x < y) (fun h k => by omega) 0 st fun i hi h0 => (h4 i hi).2.2 h0
theorem VN.vi {n : Nat} {st : List Int} {fin : List Bool} {ar : List Ac} (h : VN n st fin ar) : VI n st fin ar := by
 have hf := h.few; have hfl := h.fins
 refine ⟨⟨by omega, by omega⟩, by omega, h.va.few, fun i hi => ?_, fun i hi => ?_⟩
 ·have e : st.getD i 0 = st[i] := by rw [List.getD_eq_getElem?_getD, List.getElem?_eq_getElem hi]; rfl
  have hb := h.bds _ (List.getElem_mem hi)
  unfold OkS
  rw [e]
  refine ⟨hb.1, hb.2, fun h0 => ?_⟩
  have e2 : st.getD (i - 1) 0 = st[i - 1] := by rw [List.getD_eq_getElem?_getD, List.getElem?_eq_getElem (by omega)]; rfl
  rw [e2]
  exact List.pairwise_iff_getElem.1 h.asc (i - 1) i (by omega) hi (by omega)
 ·have e : ar.getD i (0, 0, 0) = ar[i] := by rw [List.getD_eq_getElem?_getD, List.getElem?_eq_getElem hi]; rfl
  unfold OkA
  rw [e]
  refine ⟨h.va.fr _ (List.getElem_mem hi), h.va.to _ (List.getElem_mem hi), h.va.lt _ (List.getElem_mem hi), fun h0 => ?_⟩
  have e2 : ar.getD (i - 1) (0, 0, 0) = ar[i - 1] := by rw [List.getD_eq_getElem?_getD, List.getElem?_eq_getElem (by omega)]; rfl
  rw [e2]
  exact cmpA_neg.1 (List.pairwise_iff_getElem.1 h.va.srt (i - 1) i (by omega) hi (by omega))
def RvP (S : Int) (st : List Int) (fin : List Bool) (ar : List Ac) (w : World) (e : Ending) (w' : World) : Prop := ∃ b : Bool, e = .returned (.bool b) ∧ (b = true ↔ VI S st fin ar) ∧ Below w.heap.size w w'
theorem RvP.no {S : Int} {st : List Int} {fin : List Bool} {ar : List Ac} {w w' : World} {e : Ending} (h : ¬ VI S st fin ar) (he : e = .returned (.bool false)) (hb : Below w.heap.size w w') : RvP S st fin ar w e w' := ⟨false, he, ⟨(fun h => by cases h), fun h2 => absurd h2 h⟩, hb⟩
theorem RvP.yes {S : Int} {st : List Int} {fin : List Bool} {ar : List Ac} {w w' : World} {e : Ending} (h : VI S st fin ar) (he : e = .returned (.bool true)) (hb : Below w.heap.size w w') : RvP S st fin ar w e w' := ⟨true, he, ⟨fun _ => h, fun _ => rfl⟩, hb⟩
theorem ok_succ {P : Nat → Prop} {k : Nat} (h : ∀ i, i < k → P i) (hk : P k) : ∀ i, i < k + 1 → P i := by
 intro i hi
 by_cases e : i = k
 ·subst e; exact hk
 ·exact h i (by omega)
end Go.Proofs.YtockgbilbnheaaaDoor
