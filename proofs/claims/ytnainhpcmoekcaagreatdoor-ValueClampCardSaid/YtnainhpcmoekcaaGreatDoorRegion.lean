/- A law for a region whose order is drawn: each operation keeps to a word of its own (Phi), whatever came up before it, as long as what it waits for has. No order is branched over. -/
import Derived.Test.YtnainhpcmoekcaaGreatDoorRows
import Derived.WalkKit
import Derived.Orders
namespace Go.Proofs.YtnainhpcmoekcaaGreatDoor
open Go.RowKit

def slotOf (a : Act) (d : Option Tmp) : Value := match d with | some t => a.tmps.getD t undef | none => undef
/-- The frame behind all operations: the i-th has left vs i. -/
def putAll : List Oper → Nat → (Nat → Value) → Act → Act
 | [], _, _, a => a
 | o :: r, k, vs, a => putAll r (k + 1) vs (a.put o.dst (vs k))
/-- Closed: every operation has a temporary of its own, and waits for earlier ones alone. -/
def regOk (ops : List Oper) (n : Nat) : Bool :=
 ops.all (fun o => o.dst.any (fun t => decide (t < n))) && decide (ops.map (·.dst)).Nodup && ops.zipIdx.all (fun p => p.1.after.all fun e => decide (e.on < p.2))

section
variable {P : Program} {ops : Array Oper} {Q : Exit → Act → World → Prop}

structure RegBase (ops : Array Oper) (a0 a : Act) (w0 w : World) : Prop where
 defers : a.defers = a0.defers
 size : a.tmps.size = a0.tmps.size
 same : ∀ t, (∀ (i : Nat) o, ops[i]? = some o → o.dst ≠ some t) → a.tmps[t]? = a0.tmps[t]?
 ext : Below w0.heap.size w0 w

/-- One operation does as its word says, in whatever frame and world that the region may have brought about before it. -/
def StepOk (P : Program) (ops : Array Oper) (Q : Exit → Act → World → Prop) (Phi : Nat → Value → World → Prop) (i : Nat) (o : Oper) (a : Act) (w : World) : Prop :=
 if Region.wanted o (yielded ops a.tmps) then o.wp P a w (fun a' w' => ∃ v, a' = a.put o.dst v ∧ Below w.heap.size w w' ∧ Phi i v w') Q else Phi i undef w

structure RegInv (ops : Array Oper) (Phi : Nat → Value → World → Prop) (a0 : Act) (w0 : World) (L : Array Bool) (a : Act) (w : World) : Prop where
 base : RegBase ops a0 a w0 w
 held : ∀ (i : Nat) o, ops[i]? = some o → L.getD i false = true → Phi i (slotOf a o.dst) w

theorem regOk_dst {n : Nat} (h : regOk ops.toList n = true) {i : Nat} {o : Oper} (ho : ops[i]? = some o) : ∃ t, o.dst = some t ∧ t < n := by
 simp only [regOk, Bool.and_eq_true, List.all_eq_true] at h
 have h1 := h.1.1 o (List.mem_of_getElem? (by simpa using ho))
 cases hd : o.dst with
 | none => rw [hd] at h1; simp at h1
 | some t => rw [hd] at h1; exact ⟨t, rfl, by simpa using h1⟩
theorem regOk_inj {n : Nat} (h : regOk ops.toList n = true) {i j : Nat} {o oj : Oper} (ho : ops[i]? = some o) (hj : ops[j]? = some oj) (he : o.dst = oj.dst) : i = j := by
 simp only [regOk, Bool.and_eq_true, decide_eq_true_eq] at h
 have hi' : (ops.toList.map (·.dst))[i]? = some o.dst := by rw [List.getElem?_map]; simp [ho]
 have hj' : (ops.toList.map (·.dst))[j]? = some o.dst := by rw [List.getElem?_map, he]; simp [hj]
 have hl : i < (ops.toList.map (·.dst)).length := (List.getElem?_eq_some_iff.1 hi').1
 exact (List.getElem?_inj hl h.1.2).1 (hi'.trans hj'.symm)
theorem regOk_edge {n : Nat} (h : regOk ops.toList n = true) {i : Nat} {o : Oper} (ho : ops[i]? = some o) {e : Edge} (he : e ∈ o.after) : e.on < i := by
 simp only [regOk, Bool.and_eq_true, List.all_eq_true] at h
 have h1 := h.2 (o, i) (List.mem_iff_getElem?.2 ⟨i, by rw [List.getElem?_zipIdx]; simp [ho]⟩)
 have h2 := Array.all_eq_true'.1 h1 e he
 simpa using h2

theorem slot_put_self {a : Act} {t : Tmp} {v : Value} (h : t < a.tmps.size) : slotOf (a.put (some t) v) (some t) = v := by
 simp [slotOf, Act.put, h]
theorem slot_put_other {a : Act} {t s : Tmp} {v : Value} (h : t ≠ s) : slotOf (a.put (some t) v) (some s) = slotOf a (some s) := by
 simp [slotOf, Act.put, h]

theorem mem_ready {L : Array Bool} {i : Nat} : i ∈ Region.ready .any ops L ↔ i < ops.size ∧ L.getD i true = false ∧ ∃ o, ops[i]? = some o ∧ ∀ e ∈ o.after, Region.binds .any e = true → L.getD e.on false = true := by
 unfold Region.ready
 rw [List.mem_filter, List.mem_range]
 constructor
 ·rintro ⟨h1, h2⟩
  rw [Bool.and_eq_true] at h2
  refine ⟨h1, by simpa using h2.1, ?_⟩
  cases ho : ops[i]? with
  | none => rw [ho] at h2; simp at h2
  | some o =>
   rw [ho] at h2
   refine ⟨o, rfl, fun e he hb => ?_⟩
   have h3 := h2.2
   simp only [Option.map_some, Option.getD_some] at h3
   have := Array.all_eq_true'.1 h3 e he
   rw [hb] at this
   simpa using this
 ·rintro ⟨h1, h2, o, ho, h3⟩
  refine ⟨h1, ?_⟩
  rw [Bool.and_eq_true]
  refine ⟨by simp [h2], ?_⟩
  rw [ho]
  simp only [Option.map_some, Option.getD_some]
  refine Array.all_eq_true'.2 fun e he => ?_
  cases hb : Region.binds .any e with
  | false => simp
  | true => simp [h3 e he hb]

theorem regInv_any {n : Nat} {Phi : Nat → Value → World → Prop} {a0 : Act} {w0 : World} (hok : regOk ops.toList n = true) (hn : a0.tmps.size = n)
  (hst : ∀ i v w w', Phi i v w → Below w.heap.size w w' → Phi i v w')
  (hop : ∀ (i : Nat) o, ops[i]? = some o → ∀ a w, RegBase ops a0 a w0 w → (∀ e ∈ o.after, Region.binds .any e = true → ∀ oj, ops[e.on]? = some oj → Phi e.on (slotOf a oj.dst) w) → StepOk P ops Q Phi i o a w)
  (hfin : ∀ a w, RegBase ops a0 a w0 w → (∀ (i : Nat) o, ops[i]? = some o → Phi i (slotOf a o.dst) w) → Q .normal a w) :
  ∀ (fuel : Nat) (L : Array Bool) (a : Act) (w : World), L.size = ops.size → L.toList.count false = fuel → RegInv ops Phi a0 w0 L a w → wpAny P .any ops Q fuel L a w := by
 have fin : ∀ (L : Array Bool) (a : Act) (w : World), L.size = ops.size → Region.ready .any ops L = [] → RegInv ops Phi a0 w0 L a w → Q .normal a w := by
  intro L a w hL hr hI
  have all : ∀ i, i < ops.size → L.getD i false = true := by
   intro i
   induction i using Nat.strongRecOn with
   | ind i ih =>
    intro hi
    cases hb : L.getD i false with
    | true => rfl
    | false =>
     exfalso
     have ho : ops[i]? = some ops[i] := Array.getElem?_eq_getElem hi
     have : i ∈ Region.ready .any ops L := by
      refine mem_ready.2 ⟨hi, ?_, ops[i], ho, fun e he _ => ?_⟩
      ·simp only [Array.getD_eq_getD_getElem?] at hb ⊢
       rw [Array.getElem?_eq_getElem (by omega)] at hb ⊢
       simpa using hb
      ·have := regOk_edge hok ho he
       exact ih e.on this (by omega)
     rw [hr] at this
     cases this
  exact hfin a w hI.base fun i o ho => hI.held i o ho (all i (Array.getElem?_eq_some_iff.1 ho).1)
 intro fuel
 induction fuel with
 | zero =>
  intro L a w hL hc hI
  have hr : Region.ready .any ops L = [] := by
   rw [List.eq_nil_iff_forall_not_mem]
   intro i hi
   obtain ⟨h1, h2, _⟩ := mem_ready.1 hi
   rw [List.count_eq_zero] at hc
   apply hc
   rw [Array.getD_eq_getD_getElem?, Array.getElem?_eq_getElem (by omega)] at h2
   simp only [Option.getD_some] at h2
   rw [← h2]
   exact Array.mem_toList_iff.2 (Array.getElem_mem _)
  exact ⟨hr, fin L a w hL hr hI⟩
 | succ fuel ih =>
  intro L a w hL hc hI
  refine ⟨fun hr => fin L a w hL hr hI, fun i hi => ?_⟩
  obtain ⟨h1, h2, o, ho, h3⟩ := mem_ready.1 hi
  obtain ⟨t, ht, htn⟩ := regOk_dst hok ho
  have hts : t < a.tmps.size := by rw [hI.base.size, hn]; exact htn
  have hstep := hop i o ho a w hI.base fun e he hb oj hj => hI.held e.on oj hj (h3 e he hb)
  have next : ∀ v w', Below w.heap.size w w' → Phi i v w' → wpAny P .any ops Q fuel (L.setIfInBounds i true) (a.put o.dst v) w' := by
   intro v w' hb hv
   refine ih _ _ _ (by simpa using hL) ?_ ⟨⟨?_, ?_, ?_, ?_⟩, ?_⟩
   ·have hLi : i < L.size := by omega
    have hfalse : L[i] = false := by
     rw [Array.getD_eq_getD_getElem?, Array.getElem?_eq_getElem hLi] at h2
     simpa using h2
    rw [Array.toList_setIfInBounds]
    have e1 : L.toList = L.toList.take i ++ L[i] :: L.toList.drop (i + 1) := by
     rw [← Array.getElem_toList hLi, ← List.drop_eq_getElem_cons, List.take_append_drop]
    have e2 : L.toList.set i true = L.toList.take i ++ true :: L.toList.drop (i + 1) := by
     rw [List.set_eq_take_append_cons_drop, if_pos (by simpa using hLi)]
    rw [e2, List.count_append, List.count_cons]
    rw [e1, List.count_append, List.count_cons, hfalse] at hc
    simp at hc ⊢
    omega
   ·rw [ht]; exact hI.base.defers
   ·rw [ht]; simp [Act.put, hI.base.size]
   ·intro s hs
    have hne : t ≠ s := fun h => hs i o ho (by rw [ht, h])
    rw [ht]
    simp only [Act.put, Array.getElem?_setIfInBounds, hne, if_false]
    exact hI.base.same s hs
   ·exact hI.base.ext.trans (hb.mono hI.base.ext.size)
   ·intro j oj hj hl
    by_cases hij : i = j
    ·subst hij
     rw [ho] at hj
     cases hj
     rw [ht, slot_put_self hts]
     exact hv
    ·obtain ⟨s, hs, _⟩ := regOk_dst hok hj
     have hne : t ≠ s := fun h => hij (regOk_inj hok ho hj (by rw [ht, hs, h]))
     rw [ht, hs, slot_put_other hne, ← hs]
     refine hst _ _ _ _ (hI.held j oj hj ?_) hb
     rw [Array.getD_eq_getD_getElem?, Array.getElem?_setIfInBounds, if_neg hij] at hl
     rw [Array.getD_eq_getD_getElem?]
     exact hl
  unfold wpOp
  rw [ho]
  simp only []
  unfold StepOk at hstep
  split
  ·rename_i hw
   rw [if_pos hw] at hstep
   refine .inl (Oper.wp_mono ?_ hstep)
   rintro a' w' ⟨v, rfl, hb, hv⟩
   exact next v w' hb hv
  ·rename_i hw
   rw [if_neg hw] at hstep
   exact next undef w (Below.refl _ _) hstep

theorem putAll_other (t : Tmp) : ∀ (l : List Oper) (k : Nat) (vs : Nat → Value) (b : Act), (∀ o ∈ l, o.dst ≠ some t) → (putAll l k vs b).tmps[t]? = b.tmps[t]? := by
 intro l
 induction l with
 | nil => intro k vs b _; rfl
 | cons o l ih =>
  intro k vs b h
  rw [putAll, ih _ _ _ fun o' ho' => h o' (by simp [ho'])]
  have h1 := h o (by simp)
  cases hd : o.dst with
  | none => rfl
  | some s =>
   have : s ≠ t := fun e => h1 (by rw [hd, e])
   simp [Act.put, this]
theorem putAll_frame : ∀ (l : List Oper) (k : Nat) (vs : Nat → Value) (b : Act), (putAll l k vs b).defers = b.defers ∧ (putAll l k vs b).tmps.size = b.tmps.size := by
 intro l
 induction l with
 | nil => intro k vs b; exact ⟨rfl, rfl⟩
 | cons o l ih =>
  intro k vs b
  rw [putAll]
  obtain ⟨h1, h2⟩ := ih (k + 1) vs (b.put o.dst (vs k))
  refine ⟨h1.trans ?_, h2.trans ?_⟩ <;> cases o.dst <;> simp [Act.put]
theorem putAll_at (t : Tmp) : ∀ (l : List Oper) (k : Nat) (vs : Nat → Value) (b : Act) (j : Nat) (o : Oper), (l.map (·.dst)).Nodup → l[j]? = some o → o.dst = some t → t < b.tmps.size → (putAll l k vs b).tmps[t]? = some (vs (k + j)) := by
 intro l
 induction l with
 | nil => intro k vs b j o _ h; simp at h
 | cons o' l ih =>
  intro k vs b j o hnd hj ht hlt
  rw [List.map_cons, List.nodup_cons] at hnd
  cases j with
  | zero =>
   simp only [List.getElem?_cons_zero, Option.some.injEq] at hj
   subst hj
   rw [putAll, putAll_other t]
   ·rw [ht]; simp [Act.put, hlt]
   ·intro x hx hxt
    exact hnd.1 (List.mem_map.2 ⟨x, hx, by rw [hxt, ht]⟩)
  | succ j =>
   rw [putAll, ih (k + 1) vs _ j o hnd.2 (by simpa using hj) ht (by cases o'.dst <;> simpa [Act.put] using hlt)]
   congr 2; omega

/-- The law. The frame behind the region is written out as 'putAll'. -/
theorem region_phi {id : Nat} {n : Nat} {a0 : Act} {w0 : World} (Phi : Nat → Value → World → Prop) (hm : P.follows .mixedOrders = true) (hok : regOk ops.toList n = true) (hn : a0.tmps.size = n)
  (hst : ∀ i v w w', Phi i v w → Below w.heap.size w w' → Phi i v w')
  (hop : ∀ (i : Nat) o, ops[i]? = some o → ∀ a w, RegBase ops a0 a w0 w → (∀ e ∈ o.after, Region.binds .any e = true → ∀ oj, ops[e.on]? = some oj → Phi e.on (slotOf a oj.dst) w) → StepOk P ops Q Phi i o a w)
  (hfin : ∀ (vs : Nat → Value) w, Below w0.heap.size w0 w → (∀ i, i < ops.size → Phi i (vs i) w) → Q .normal (putAll ops.toList 0 vs a0) w) :
  (Code.region id ops true).wp P Q a0 w0 := by
 refine wp_region_any hm ?_
 refine regInv_any hok hn hst hop ?_ ops.size _ a0 _ (by simp) (by simp) ⟨⟨rfl, rfl, fun _ _ => rfl, (Below.refl _ _).drew⟩, ?_⟩
 ·intro a w hb hv
  have key := hfin (fun i => slotOf a ((ops[i]?).bind (·.dst))) w hb.ext fun i hi => by
   have ho : ops[i]? = some ops[i] := Array.getElem?_eq_getElem hi
   have := hv i _ ho
   rw [ho]; exact this
  have hnd : (ops.toList.map (·.dst)).Nodup := by
   have := hok
   simp only [regOk, Bool.and_eq_true, decide_eq_true_eq] at this
   exact this.1.2
  have e : a = putAll ops.toList 0 (fun i => slotOf a ((ops[i]?).bind (·.dst))) a0 := by
   obtain ⟨f1, f2⟩ := putAll_frame ops.toList 0 (fun i => slotOf a ((ops[i]?).bind (·.dst))) a0
   have ht : a.tmps = (putAll ops.toList 0 (fun i => slotOf a ((ops[i]?).bind (·.dst))) a0).tmps := by
    apply Array.ext_getElem?
    intro t
    by_cases h : ∃ (i : Nat) (o : Oper), ops[i]? = some o ∧ o.dst = some t
    ·obtain ⟨i, o, ho, hot⟩ := h
     have htn : t < a0.tmps.size := by
      obtain ⟨t', h1, h2⟩ := regOk_dst hok ho
      rw [hot] at h1; cases h1
      rw [hn]; exact h2
     rw [putAll_at t ops.toList 0 _ a0 i o hnd (by simpa using ho) hot htn]
     simp only [Nat.zero_add, ho, Option.bind_some, hot, slotOf]
     rw [Array.getD_eq_getD_getElem?, Array.getElem?_eq_getElem (by rw [hb.size]; exact htn)]
     rfl
    ·rw [putAll_other t]
     ·exact hb.same t fun i o ho hot => h ⟨i, o, ho, hot⟩
     ·intro o ho hot
      obtain ⟨i, hi⟩ := List.mem_iff_getElem?.1 ho
      exact h ⟨i, o, by simpa using hi, hot⟩
   cases a with
   | mk tm df =>
    have hd := hb.defers
    generalize putAll ops.toList 0 _ a0 = z at *
    cases z with
    | mk tz dz =>
     simp only at ht f1 hd
     rw [ht, hd, ← f1]
  rw [e]
  exact key
 ·intro i o ho hl
  rw [Array.getD_eq_getD_getElem?, Array.getElem?_replicate] at hl
  split at hl <;> simp at hl

/-- A word for each operation of a list. -/
def AllOps (F : Nat → Oper → Prop) : Nat → List Oper → Prop
 | _, [] => True
 | k, o :: l => F k o ∧ AllOps F (k + 1) l
theorem allOps_at {F : Nat → Oper → Prop} : ∀ (l : List Oper) (k i : Nat) (o : Oper), AllOps F k l → l[i]? = some o → F (k + i) o
 | [], _, _, _, _, h => by simp at h
 | o' :: l, k, 0, o, hF, h => by simp at h; subst h; exact hF.1
 | o' :: l, k, i + 1, o, hF, h => by
  have := allOps_at l (k + 1) i o hF.2 (by simpa using h)
  rwa [show k + 1 + i = k + (i + 1) by omega] at this
theorem allOps_spec {F : Nat → Oper → Prop} (h : AllOps F 0 ops.toList) : ∀ (i : Nat) o, ops[i]? = some o → F i o := fun i o ho => by
 have := allOps_at ops.toList 0 i o h (by simpa using ho)
 rwa [Nat.zero_add] at this

theorem RegBase.at {a0 a : Act} {w0 w : World} (h : RegBase ops a0 a w0 w) (t : Tmp) (hc : (ops.toList.all fun o => decide (o.dst ≠ some t)) = true) : a.tmps[t]?.getD undef = a0.tmps[t]?.getD undef := by
 rw [h.same t]
 intro i o ho
 have := List.all_eq_true.1 hc o (List.mem_of_getElem? (by simpa using ho))
 simpa using this
theorem slot_eq {a : Act} {t : Tmp} : slotOf a (some t) = a.tmps[t]?.getD undef := by simp [slotOf]
theorem bool_at {a : Act} {t : Tmp} {b : Bool} (h : a.tmps[t]?.getD undef = .bool b) : a.tmps[t]? = some (.bool b) := by
 cases hx : a.tmps[t]? with
 | none => rw [hx] at h; simp [undef] at h
 | some v => rw [hx] at h; simp at h; rw [h]
theorem step_on {Phi : Nat → Value → World → Prop} {i : Nat} {o : Oper} {a : Act} {w : World} (hw : Region.wanted o (yielded ops a.tmps) = true)
  (h : o.wp P a w (fun a' w' => ∃ v, a' = a.put o.dst v ∧ Below w.heap.size w w' ∧ Phi i v w') Q) : StepOk P ops Q Phi i o a w := by
 unfold StepOk; rw [if_pos hw]; exact h
theorem step_off {Phi : Nat → Value → World → Prop} {i : Nat} {o : Oper} {a : Act} {w : World} (hw : Region.wanted o (yielded ops a.tmps) = false)
  (h : Phi i undef w) : StepOk P ops Q Phi i o a w := by
 unfold StepOk; rw [hw]; exact h
/-- An operation that leaves a value and does nothing else. -/
theorem step_run {Phi : Nat → Value → World → Prop} {i : Nat} {o : Oper} {a : Act} {w : World} {v : Value} (hw : Region.wanted o (yielded ops a.tmps) = true)
  (hr : (execOp a.eval o).run P w = .ok (.value v) w) (h : Phi i v w) : StepOk P ops Q Phi i o a w :=
 step_on hw (by unfold Oper.wp; rw [hr]; exact ⟨v, rfl, Below.refl _ _, h⟩)
/-- A call of a Go function. -/
theorem step_call {Phi : Nat → Value → World → Prop} {i : Nat} {o : Oper} {a : Act} {w : World} {f : FuncId} {args : Array Value} (hw : Region.wanted o (yielded ops a.tmps) = true)
  (hr : (execOp a.eval o).run P w = .ok (.enter f args) w) (h : Calls P f args w fun e w' => ∃ v, e = .returned v ∧ Below w.heap.size w w' ∧ Phi i v w') : StepOk P ops Q Phi i o a w := by
 refine step_on hw ?_
 unfold Oper.wp
 rw [hr, Oper.upon_enter]
 refine h.mono ?_
 rintro e w' ⟨v, rfl, hb, hp⟩
 exact ⟨v, rfl, hb, hp⟩
end
end Go.Proofs.YtnainhpcmoekcaaGreatDoor
