/- The same law where an operation names later ones that do not bind it. -/
import Derived.Test.YtnainhpcmoekcaaGreatDoorRegInv
namespace Go.Proofs.YtnainhpcmoekcaaGreatDoor
open Go.RowKit

/-- Closed: no slot is written twice, and every operation waits for earlier ones alone. -/
def regOkE (ops : List Oper) (n : Nat) : Bool :=
 ops.all (fun o => o.dst.all (fun t => decide (t < n))) && decide (ops.Pairwise fun a b => a.dst = none ∨ a.dst ≠ b.dst) && ops.zipIdx.all (fun p => p.1.after.all fun e => !Region.binds .any e || decide (e.on < p.2))
section
variable {P : Program} {ops : Array Oper} {Q : Exit → Act → World → Prop}
theorem okE_lt {n : Nat} (h : regOkE ops.toList n = true) {i t : Nat} {o : Oper} (ho : ops[i]? = some o) (ht : o.dst = some t) : t < n := by
 simp only [regOkE, Bool.and_eq_true, List.all_eq_true] at h
 have h1 := h.1.1 o (List.mem_of_getElem? (by simpa using ho))
 rw [ht] at h1
 simpa using h1
theorem okE_inj {n : Nat} (h : regOkE ops.toList n = true) {i j t : Nat} {o oj : Oper} (ho : ops[i]? = some o) (hj : ops[j]? = some oj) (h1 : o.dst = some t) (h2 : oj.dst = some t) : i = j := by
 simp only [regOkE, Bool.and_eq_true, decide_eq_true_eq] at h
 have hp := List.pairwise_iff_getElem.1 h.1.2
 have hi := (Array.getElem?_eq_some_iff.1 ho)
 have hj' := (Array.getElem?_eq_some_iff.1 hj)
 obtain ⟨hil, hie⟩ := hi
 obtain ⟨hjl, hje⟩ := hj'
 rcases Nat.lt_trichotomy i j with hlt | he | hlt
 ·exfalso
  have := hp i j (by simpa using hil) (by simpa using hjl) hlt
  simp only [Array.getElem_toList, hie, hje, h1, h2] at this
  rcases this with h | h
  ·cases h
  ·exact h rfl
 ·exact he
 ·exfalso
  have := hp j i (by simpa using hjl) (by simpa using hil) hlt
  simp only [Array.getElem_toList, hie, hje, h1, h2] at this
  rcases this with h | h
  ·cases h
  ·exact h rfl
theorem okE_edge {n : Nat} (h : regOkE ops.toList n = true) {i : Nat} {o : Oper} (ho : ops[i]? = some o) {e : Edge} (he : e ∈ o.after) (hb : Region.binds .any e = true) : e.on < i := by
 simp only [regOkE, Bool.and_eq_true, List.all_eq_true] at h
 have h1 := h.2 (o, i) (List.mem_iff_getElem?.2 ⟨i, by rw [List.getElem?_zipIdx]; simp [ho]⟩)
 have h2 := Array.all_eq_true'.1 h1 e he
 simpa [hb] using h2
theorem regInv_loopE {n : Nat} {I : (Nat → Bool) → (Nat → Value) → World → Prop} {a0 : Act} (hok : regOkE ops.toList n = true) (hn : a0.tmps.size = n)
  (hop : ∀ (i : Nat) o, ops[i]? = some o → ∀ L vs a w, RegB ops L vs a0 a → L i = false → (∀ e ∈ o.after, Region.binds .any e = true → L e.on = true) → I L vs w → StepI P ops Q I L vs i o a w)
  (hfin : ∀ L vs a w, RegB ops L vs a0 a → (∀ i, i < ops.size → L i = true) → I L vs w → Q .normal a w) :
  ∀ (fuel : Nat) (Lb : Array Bool) (vs : Nat → Value) (a : Act) (w : World), Lb.size = ops.size → Lb.toList.count false = fuel → RegB ops (fun i => Lb.getD i false) vs a0 a → I (fun i => Lb.getD i false) vs w → wpAny P .any ops Q fuel Lb a w := by
 have fin : ∀ (Lb : Array Bool) (vs : Nat → Value) (a : Act) (w : World), Lb.size = ops.size → Region.ready .any ops Lb = [] → RegB ops (fun i => Lb.getD i false) vs a0 a → I (fun i => Lb.getD i false) vs w → Q .normal a w := by
  intro Lb vs a w hL hr hB hI
  refine hfin _ vs a w hB ?_ hI
  intro i
  induction i using Nat.strongRecOn with
  | ind i ih =>
   intro hi
   cases hb : Lb.getD i false with
   | true => rfl
   | false =>
    exfalso
    have ho : ops[i]? = some ops[i] := Array.getElem?_eq_getElem hi
    have : i ∈ Region.ready .any ops Lb := by
     refine mem_ready.2 ⟨hi, ?_, ops[i], ho, fun e he hbe => ?_⟩
     ·simp only [Array.getD_eq_getD_getElem?] at hb ⊢
      rw [Array.getElem?_eq_getElem (by omega)] at hb ⊢
      simpa using hb
     ·have := okE_edge hok ho he hbe
      exact ih e.on this (by omega)
    rw [hr] at this
    cases this
 intro fuel
 induction fuel with
 | zero =>
  intro Lb vs a w hL hc hB hI
  have hr : Region.ready .any ops Lb = [] := by
   rw [List.eq_nil_iff_forall_not_mem]
   intro i hi
   obtain ⟨h1, h2, _⟩ := mem_ready.1 hi
   rw [List.count_eq_zero] at hc
   apply hc
   rw [Array.getD_eq_getD_getElem?, Array.getElem?_eq_getElem (by omega)] at h2
   simp only [Option.getD_some] at h2
   rw [← h2]
   exact Array.mem_toList_iff.2 (Array.getElem_mem _)
  exact ⟨hr, fin Lb vs a w hL hr hB hI⟩
 | succ fuel ih =>
  intro Lb vs a w hL hc hB hI
  refine ⟨fun hr => fin Lb vs a w hL hr hB hI, fun i hi => ?_⟩
  obtain ⟨h1, h2, o, ho, h3⟩ := mem_ready.1 hi
  have hLi : i < Lb.size := by omega
  have hfalse : Lb[i] = false := by
   rw [Array.getD_eq_getD_getElem?, Array.getElem?_eq_getElem hLi] at h2
   simpa using h2
  have hLf : Lb.getD i false = false := by rw [Array.getD_eq_getD_getElem?, Array.getElem?_eq_getElem hLi]; simpa using hfalse
  have hstep := hop i o ho _ vs a w hB hLf h3 hI
  have eL : (fun j => (Lb.setIfInBounds i true).getD j false) = updB (fun j => Lb.getD j false) i := by
   funext j
   unfold updB
   by_cases e : j = i
   ·subst e
    rw [if_pos rfl, Array.getD_eq_getD_getElem?, Array.getElem?_setIfInBounds, if_pos rfl, if_pos hLi]; rfl
   ·rw [if_neg e, Array.getD_eq_getD_getElem?, Array.getElem?_setIfInBounds, if_neg (fun h => e h.symm), ← Array.getD_eq_getD_getElem?]
  have next : ∀ v w', I (updB (fun j => Lb.getD j false) i) (updV vs i v) w' → wpAny P .any ops Q fuel (Lb.setIfInBounds i true) (a.put o.dst v) w' := by
   intro v w' hI'
   refine ih _ (updV vs i v) _ _ (by simpa using hL) ?_ ?_ (by rw [eL]; exact hI')
   ·rw [Array.toList_setIfInBounds]
    have e1 : Lb.toList = Lb.toList.take i ++ Lb[i] :: Lb.toList.drop (i + 1) := by
     rw [← Array.getElem_toList hLi, ← List.drop_eq_getElem_cons, List.take_append_drop]
    have e2 : Lb.toList.set i true = Lb.toList.take i ++ true :: Lb.toList.drop (i + 1) := by
     rw [List.set_eq_take_append_cons_drop, if_pos (by simpa using hLi)]
    rw [e2, List.count_append, List.count_cons]
    rw [e1, List.count_append, List.count_cons, hfalse] at hc
    simp at hc ⊢
    omega
   ·rw [eL]
    refine ⟨?_, ?_, ?_, ?_, ?_⟩
    ·cases o.dst <;> exact hB.defers
    ·cases o.dst with
     | none => exact hB.size
     | some s => simp [Act.put, hB.size]
    ·intro t ht
     have hne : o.dst ≠ some t := fun e => by
      have := ht i o ho e
      rw [updB_self] at this
      cases this
     rw [put_same hne]
     exact hB.same t fun j oj hj hd => by
      by_cases e : j = i
      ·subst e
       rw [ho] at hj
       cases hj
       exact absurd hd hne
      ·have := ht j oj hj hd
       rwa [updB_ne _ e] at this
    ·intro j oj t hj hd hl
     by_cases e : j = i
     ·subst e
      rw [ho] at hj
      cases hj
      rw [updV_self, hd, put_at]
      rw [hB.size, hn]
      exact okE_lt hok ho hd
     ·rw [updB_ne _ e] at hl
      rw [updV_ne _ _ e, put_same (fun h => e (okE_inj hok hj ho hd h))]
      exact hB.done j oj t hj hd hl
    ·intro j oj hj hl e he hb
     by_cases hji : j = i
     ·subst hji
      rw [ho] at hj
      cases hj
      have h4 := h3 e he hb
      by_cases h5 : e.on = j
      ·rw [h5, updB_self]
      ·rw [updB_ne _ h5]; exact h4
     ·rw [updB_ne _ hji] at hl
      have h4 := hB.closed j oj hj hl e he hb
      by_cases h5 : e.on = i
      ·rw [h5, updB_self]
      ·rw [updB_ne _ h5]; exact h4
  unfold wpOp
  rw [ho]
  simp only []
  unfold StepI at hstep
  split
  ·rename_i hw
   rw [if_pos hw] at hstep
   refine .inl (Oper.wp_mono ?_ hstep)
   rintro a' w' ⟨v, rfl, hv⟩
   exact next v w' hv
  ·rename_i hw
   rw [if_neg hw] at hstep
   exact next undef w hstep

/-- The law. The frame behind the region is written out as 'putAll'. -/
theorem region_invE {id : Nat} {n : Nat} {a0 : Act} {w0 : World} (I : (Nat → Bool) → (Nat → Value) → World → Prop) (hm : P.follows .mixedOrders = true) (hok : regOkE ops.toList n = true) (hn : a0.tmps.size = n)
  (h0 : ∀ vs, I (fun _ => false) vs w0.drew)
  (hop : ∀ (i : Nat) o, ops[i]? = some o → ∀ L vs a w, RegB ops L vs a0 a → L i = false → (∀ e ∈ o.after, Region.binds .any e = true → L e.on = true) → I L vs w → StepI P ops Q I L vs i o a w)
  (hfin : ∀ (L : Nat → Bool) (vs : Nat → Value) w, (∀ i, i < ops.size → L i = true) → I L vs w → Q .normal (putAll ops.toList 0 vs a0) w) :
  (Code.region id ops true).wp P Q a0 w0 := by
 refine wp_region_any hm ?_
 have eL : (fun i => (Array.replicate ops.size false).getD i false) = fun _ : Nat => false := by
  funext i
  rw [Array.getD_eq_getD_getElem?, Array.getElem?_replicate]
  split <;> rfl
 refine regInv_loopE hok hn hop ?_ ops.size _ (fun _ => undef) a0 _ (by simp) (by simp) ?_ (by rw [eL]; exact h0 _)
 ·intro L vs a w hB hall hI
  have key := hfin L vs w hall hI
  have hnd : ops.toList.Pairwise fun a b => a.dst = none ∨ a.dst ≠ b.dst := by
   have := hok
   simp only [regOkE, Bool.and_eq_true, decide_eq_true_eq] at this
   exact this.1.2
  have e : a = putAll ops.toList 0 vs a0 := by
   obtain ⟨f1, f2⟩ := putAll_frame ops.toList 0 vs a0
   have ht : a.tmps = (putAll ops.toList 0 vs a0).tmps := by
    apply Array.ext_getElem?
    intro t
    by_cases h : ∃ (i : Nat) (o : Oper), ops[i]? = some o ∧ o.dst = some t
    ·obtain ⟨i, o, ho, hot⟩ := h
     have htn : t < a0.tmps.size := by rw [hn]; exact okE_lt hok ho hot
     rw [putAll_at2 ops.toList 0 vs a0 i o hnd (by simpa using ho) hot htn, Nat.zero_add]
     exact hB.done i o t ho hot (hall i (Array.getElem?_eq_some_iff.1 ho).1)
    ·rw [putAll_other t]
     ·exact hB.same t fun i o ho hot => absurd ⟨i, o, ho, hot⟩ h
     ·intro o ho hot
      obtain ⟨i, hi⟩ := List.mem_iff_getElem?.1 ho
      exact h ⟨i, o, by simpa using hi, hot⟩
   cases a with
   | mk tm df =>
    have hd := hB.defers
    generalize putAll ops.toList 0 vs a0 = z at *
    cases z with
    | mk tz dz =>
     simp only at ht f1 hd
     rw [ht, hd, ← f1]
  rw [e]
  exact key
 ·rw [eL]
  exact ⟨rfl, rfl, fun _ _ => rfl, (fun _ _ _ _ _ h => by cases h), (fun _ _ _ h => by cases h)⟩
end
end Go.Proofs.YtnainhpcmoekcaaGreatDoor
