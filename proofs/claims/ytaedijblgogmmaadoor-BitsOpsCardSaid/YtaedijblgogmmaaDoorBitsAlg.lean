/- The laws of sets, as the words have them; the contracts that the laws' walks use. -/
import Derived.Test.YtaedijblgogmmaaDoorBitsAwake
namespace Go.Proofs.YtaedijblgogmmaaDoor
open Go.RowKit

def Fine (ws : List Nat) : Prop := Wds ws ∧ Room2 ws.length
def SU (a b : List Nat) : List Nat := setop (fun x y => x ||| y) a b
def SI (a b : List Nat) : List Nat := setop (fun x y => x &&& y) a b
def SM (a b : List Nat) : List Nat := setop andn a b
theorem Room2.le {n : Nat} (h : n ≤ 70) : Room2 n := by unfold Room2; omega
theorem Fine.SU {a b : List Nat} (ha : Fine a) (hb : Fine b) : Fine (SU a b) := ⟨setop_wds or_u64 ha.1 hb.1, Room2.le (by have := setop_len (fun x y => x ||| y) a b; unfold Proofs.YtaedijblgogmmaaDoor.SU; omega)⟩
theorem Fine.SI {a b : List Nat} (ha : Fine a) (hb : Fine b) : Fine (SI a b) := ⟨setop_wds and_u64 ha.1 hb.1, Room2.le (by have := setop_len (fun x y => x &&& y) a b; unfold Proofs.YtaedijblgogmmaaDoor.SI; omega)⟩
theorem Fine.SM {a b : List Nat} (ha : Fine a) (hb : Fine b) : Fine (SM a b) := ⟨setop_wds andn_u64 ha.1 hb.1, Room2.le (by have := setop_len andn a b; unfold Proofs.YtaedijblgogmmaaDoor.SM; omega)⟩
theorem Fine.mk1 (n : Int) : Fine (mk [n]) := ⟨mk_wds _, Room2.le (by have := mk_len [n]; omega)⟩
theorem Fine.withM {a : List Nat} (ha : Fine a) (n : Int) : Fine (withM a n) := by unfold Proofs.YtaedijblgogmmaaDoor.withM; exact ha.SU (Fine.mk1 n)
theorem Fine.withoutM {a : List Nat} (ha : Fine a) (n : Int) : Fine (withoutM a n) := by unfold Proofs.YtaedijblgogmmaaDoor.withoutM; exact ha.SM (Fine.mk1 n)
theorem Fine.nil : Fine [] := ⟨(by intro x hx; cases hx), by unfold Room2; simp⟩
def Got (w : World) (ws : List Nat) (e : Ending) (w' : World) : Prop := ∃ v, e = .returned v ∧ Sl uv w' v ws ∧ Below w.heap.size w w'
theorem MadeP.got {w : World} {ws : List Nat} {e : Ending} {w' : World} (h : MadeP w ws e w') : Got w ws e w' := let ⟨v, he, ho, hb⟩ := h; ⟨v, he, ho.sl, hb⟩
section
variable {va vb : Value} {a b : List Nat} {w : World}
theorem union_f (ha : Sl uv w va a) (hb : Sl uv w vb b) (fa : Fine a) (fb : Fine b) : Calls Tryd.prog 15 #[va, vb] w (Got w (SU a b)) := (union_any va vb a b w ha hb fa.2 fb.2 fa.1 fb.1).mono fun _ _ h => h.got
theorem inter_f (ha : Sl uv w va a) (hb : Sl uv w vb b) (fa : Fine a) (fb : Fine b) : Calls Tryd.prog 17 #[va, vb] w (Got w (SI a b)) := (inter_any va vb a b w ha hb fa.2 fb.2 fa.1 fb.1).mono fun _ _ h => h.got
theorem minus_f (ha : Sl uv w va a) (hb : Sl uv w vb b) (fa : Fine a) (fb : Fine b) : Calls Tryd.prog 19 #[va, vb] w (Got w (SM a b)) := (minus_any va vb a b w ha hb fa.2 fb.2 fa.1 fb.1).mono fun _ _ h => h.got
theorem with_f (n : Int) (ha : Sl uv w va a) (fa : Fine a) : Calls Tryd.prog 33 #[va, .int .i64 n] w (Got w (withM a n)) := (with_any va a n w ha fa.2 fa.1).mono fun _ _ h => h.got
theorem without_f (n : Int) (ha : Sl uv w va a) (fa : Fine a) : Calls Tryd.prog 34 #[va, .int .i64 n] w (Got w (withoutM a n)) := (without_any va a n w ha fa.2 fa.1).mono fun _ _ h => h.got
theorem equal_f (ha : Sl uv w va a) (hb : Sl uv w vb b) (fa : Fine a) (fb : Fine b) (r : Bool) (hr : decide (used a = used b) = r) : Calls Tryd.prog 23 #[va, vb] w fun e w' => e = .returned (.bool r) ∧ Below w.heap.size w w' :=
  (equal_any va vb a b w ha hb fa.2 fb.2).mono fun _ _ ⟨he, m, hm⟩ => ⟨hr ▸ he, by rw [hm]; exact below_drewN (Below.refl _ _) m⟩
theorem len_f (ha : Sl uv w va a) (fa : Fine a) (n : Nat) (hn : slen a = n) : Calls Tryd.prog 37 #[va] w fun e w' => e = .returned (.int .i64 (n : Int)) ∧ w = w' := hn ▸ len_any va a w ha fa.2 fa.1
theorem sub_f (ha : Sl uv w va a) (hb : Sl uv w vb b) (fa : Fine a) (fb : Fine b) (r : Bool) (hr : subM a b = r) : Calls Tryd.prog 21 #[va, vb] w fun e w' => e = .returned (.bool r) ∧ w = w' := hr ▸ sub_any va vb a b w ha hb fa.2 fb.2 fa.1 fb.1
end
section
variable (a b c : List Nat)
theorem watU (i : Nat) : wat (SU a b) i = wat a i ||| wat b i := wat_setop (op := fun x y => x ||| y) rfl a b i
theorem watI (i : Nat) : wat (SI a b) i = wat a i &&& wat b i := wat_setop (op := fun x y => x &&& y) rfl a b i
theorem watM (i : Nat) : wat (SM a b) i = andn (wat a i) (wat b i) := wat_setop (op := andn) rfl a b i
theorem f_ucomm : used (SU a b) = used (SU b a) := used_ext fun i => by rw [watU, watU, Nat.or_comm]
theorem f_icomm : used (SI a b) = used (SI b a) := used_ext fun i => by rw [watI, watI, Nat.and_comm]
theorem f_uself : used (SU a a) = used a := used_ext fun i => by rw [watU, Nat.or_self]
theorem f_iself : used (SI a a) = used a := used_ext fun i => by rw [watI, Nat.and_self]
theorem f_uassoc : used (SU (SU a b) c) = used (SU a (SU b c)) := used_ext fun i => by rw [watU, watU, watU, watU, Nat.or_assoc]
theorem f_iassoc : used (SI (SI a b) c) = used (SI a (SI b c)) := used_ext fun i => by rw [watI, watI, watI, watI, Nat.and_assoc]
theorem f_dist1 : used (SI (SU a b) c) = used (SU (SI a c) (SI b c)) := used_ext fun i => by
  rw [watI, watU, watU, watI, watI]
  apply Nat.eq_of_testBit_eq
  intro k
  simp only [Nat.testBit_and, Nat.testBit_or]
  cases (wat a i).testBit k <;> cases (wat b i).testBit k <;> cases (wat c i).testBit k <;> rfl
theorem f_dist2 : used (SU (SI a b) c) = used (SI (SU a c) (SU b c)) := used_ext fun i => by
  rw [watU, watI, watI, watU, watU]
  apply Nat.eq_of_testBit_eq
  intro k
  simp only [Nat.testBit_and, Nat.testBit_or]
  cases (wat a i).testBit k <;> cases (wat b i).testBit k <;> cases (wat c i).testBit k <;> rfl
theorem f_parts : used (SU (SI a b) (SM a b)) = used a := used_ext fun i => by
  rw [watU, watI, watM]
  apply Nat.eq_of_testBit_eq
  intro k
  simp only [Nat.testBit_and, Nat.testBit_or, andn_bit]
  cases (wat a i).testBit k <;> cases (wat b i).testBit k <;> rfl
variable {a b c}
theorem slen_zero (ha : Fine a) : slen a = 0 ↔ ∀ i, wat a i = 0 := by rw [slen_els]; exact els_nil a ha.1
theorem f_apart1 (ha : Fine a) (hb : Fine b) : slen (SI (SI a b) (SM a b)) = 0 := (slen_zero ((ha.SI hb).SI (ha.SM hb))).2 fun i => by
  rw [watI, watI, watM]
  apply Nat.eq_of_testBit_eq
  intro k
  simp only [Nat.testBit_and, andn_bit, Nat.zero_testBit]
  cases (wat a i).testBit k <;> cases (wat b i).testBit k <;> rfl
theorem f_apart2 (ha : Fine a) (hb : Fine b) : slen (SI (SM a b) b) = 0 := (slen_zero ((ha.SM hb).SI hb)).2 fun i => by
  rw [watI, watM]
  apply Nat.eq_of_testBit_eq
  intro k
  simp only [Nat.testBit_and, andn_bit, Nat.zero_testBit]
  cases (wat a i).testBit k <;> cases (wat b i).testBit k <;> rfl
/-! subsets -/
theorem f_sub1 (ha : Fine a) (hb : Fine b) : subM a b = decide (slen (SM a b) = 0) := by
  rw [Bool.eq_iff_iff, decide_eq_true_iff, subM_iff, slen_zero (ha.SM hb)]
  simp only [watM]
theorem f_sub2 : subM a b = decide (used (SU a b) = used b) := by
  rw [Bool.eq_iff_iff, decide_eq_true_iff, subM_iff, used_iff]
  simp only [watU]
  constructor
  · intro h i
    apply Nat.eq_of_testBit_eq
    intro k
    have := congrArg (Nat.testBit · k) (h i)
    simp only [andn_bit, Nat.zero_testBit] at this
    rw [Nat.testBit_or]
    revert this
    cases (wat a i).testBit k <;> cases (wat b i).testBit k <;> decide
  · intro h i
    apply Nat.eq_of_testBit_eq
    intro k
    have := congrArg (Nat.testBit · k) (h i)
    simp only [Nat.testBit_or] at this
    rw [andn_bit, Nat.zero_testBit]
    revert this
    cases (wat a i).testBit k <;> cases (wat b i).testBit k <;> decide
theorem f_sub3 : subM a b = decide (used (SI a b) = used a) := by
  rw [Bool.eq_iff_iff, decide_eq_true_iff, subM_iff, used_iff]
  simp only [watI]
  constructor
  · intro h i
    apply Nat.eq_of_testBit_eq
    intro k
    have := congrArg (Nat.testBit · k) (h i)
    simp only [andn_bit, Nat.zero_testBit] at this
    rw [Nat.testBit_and]
    revert this
    cases (wat a i).testBit k <;> cases (wat b i).testBit k <;> decide
  · intro h i
    apply Nat.eq_of_testBit_eq
    intro k
    have := congrArg (Nat.testBit · k) (h i)
    simp only [Nat.testBit_and] at this
    rw [andn_bit, Nat.zero_testBit]
    revert this
    cases (wat a i).testBit k <;> cases (wat b i).testBit k <;> decide
theorem f_sub4 : subM (SI a b) b = true := by
  rw [subM_iff]
  intro i
  rw [watI]
  apply Nat.eq_of_testBit_eq
  intro k
  simp only [Nat.testBit_and, andn_bit, Nat.zero_testBit]
  cases (wat a i).testBit k <;> cases (wat b i).testBit k <;> rfl
theorem f_sub5 : subM a (SU a b) = true := by
  rw [subM_iff]
  intro i
  rw [watU]
  apply Nat.eq_of_testBit_eq
  intro k
  simp only [Nat.testBit_or, andn_bit, Nat.zero_testBit]
  cases (wat a i).testBit k <;> cases (wat b i).testBit k <;> rfl
/-! counts -/
theorem count_pair {α : Type} (p q : α → Bool) : ∀ l : List α, (l.filter fun x => p x || q x).length + (l.filter fun x => p x && q x).length = (l.filter p).length + (l.filter q).length
  | [] => rfl
  | x :: l => by
    have := count_pair p q l
    simp only [List.filter_cons]
    cases p x <;> cases q x <;> simp <;> omega
theorem count_cut {α : Type} (p q : α → Bool) : ∀ l : List α, (l.filter fun x => p x && !q x).length + (l.filter fun x => p x && q x).length = (l.filter p).length
  | [] => rfl
  | x :: l => by
    have := count_cut p q l
    simp only [List.filter_cons]
    cases p x <;> cases q x <;> simp <;> omega
theorem count_one (k : Nat) : ∀ n, ((List.range n).filter fun m => decide (m = k)).length = if k < n then 1 else 0
  | 0 => rfl
  | n + 1 => by
    rw [List.range_succ, List.filter_append, List.length_append, count_one k n]
    by_cases h : n = k
    · subst h; simp
    · have e : ([n].filter fun m => decide (m = k)) = [] := by simp [h]
      rw [e]
      by_cases h2 : k < n
      · rw [if_pos h2, if_pos (by omega)]; rfl
      · rw [if_neg h2, if_neg (by omega)]; rfl
theorem count_at (p : Nat → Bool) (k : Nat) : ∀ l : List Nat, (l.filter fun m => p m && decide (m = k)).length = if p k = true then (l.filter fun m => decide (m = k)).length else 0
  | [] => by simp
  | x :: l => by
    have := count_at p k l
    simp only [List.filter_cons]
    by_cases h : x = k
    · subst h
      cases hp : p x
      · rw [hp] at this; simpa using this
      · rw [hp] at this; simpa using this
    · simp only [h, decide_false, Bool.and_false]
      simpa using this
theorem hasU (n : Nat) : has (SU a b) n = (has a n || has b n) := by unfold has; rw [watU, Nat.testBit_or]
theorem hasI' (n : Nat) : has (SI a b) n = (has a n && has b n) := by unfold has; rw [watI, Nat.testBit_and]
theorem hasM (n : Nat) : has (SM a b) n = (has a n && !has b n) := by unfold has; rw [watM, andn_bit]
theorem els_filter (ws : List Nat) : els ws = (List.range 4096).filter (has ws) := rfl
theorem f_count (a b : List Nat) : slen (SU a b) + slen (SI a b) = slen a + slen b := by
  have h := count_pair (has a) (has b) (List.range 4096)
  have e1 : els (SU a b) = (List.range 4096).filter (fun x => has a x || has b x) := (els_filter _).trans (List.filter_congr fun n _ => hasU n)
  have e2 : els (SI a b) = (List.range 4096).filter (fun x => has a x && has b x) := (els_filter _).trans (List.filter_congr fun n _ => hasI' n)
  rw [slen_els, slen_els, slen_els, slen_els, e1, e2, els_filter a, els_filter b, ← h]
theorem mk1_has (k : Nat) (hk : k < 4096) (m : Nat) : has (mk [(k : Int)]) m = decide (m = k) := by
  rw [mk_has, decide_eq_decide, List.mem_singleton]
  omega
theorem f_with (a : List Nat) (k : Nat) (hk : k < 4096) : slen (withM a k) = slen a + if has a k = true then 0 else 1 := by
  have h1 := count_pair (has a) (fun m => decide (m = k)) (List.range 4096)
  rw [count_at, count_one, if_pos hk] at h1
  have e1 : els (withM a k) = (List.range 4096).filter (fun m => has a m || decide (m = k)) := (els_filter _).trans (List.filter_congr fun n _ => by rw [show withM a k = SU a (mk [(k : Int)]) from rfl, hasU, mk1_has k hk])
  rw [← e1, ← els_filter] at h1
  rw [slen_els, slen_els a]
  by_cases h : has a k = true
  · rw [if_pos h] at h1 ⊢; omega
  · rw [if_neg h] at h1 ⊢; omega
theorem f_without (a : List Nat) (k : Nat) (hk : k < 4096) : (slen (withoutM a k) : Int) = (slen a : Int) - 1 + if has a k = true then 0 else 1 := by
  have h1 := count_cut (has a) (fun m => decide (m = k)) (List.range 4096)
  rw [count_at, count_one, if_pos hk] at h1
  have e1 : els (withoutM a k) = (List.range 4096).filter (fun m => has a m && !decide (m = k)) := (els_filter _).trans (List.filter_congr fun n _ => by rw [show withoutM a k = SM a (mk [(k : Int)]) from rfl, hasM, mk1_has k hk])
  rw [← e1, ← els_filter] at h1
  rw [slen_els, slen_els a]
  by_cases h : has a k = true
  · rw [if_pos h] at h1 ⊢; omega
  · rw [if_neg h] at h1 ⊢; omega
end
end Go.Proofs.YtaedijblgogmmaaDoor
