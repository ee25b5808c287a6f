/- nfa's Determinize: the plain facts, and what its loops keep in memory. -/
import Derived.Test.YtockgbilbnheaaaDoorNfaSrt
import Derived.Test.YtockgbilbnheaaaDoorNfaFin
import Derived.StringKeys
import Derived.Laws.ResultCell
import Derived.Test.YtockgbilbnheaaaDoorNfaAcc
namespace Go.Proofs.YtockgbilbnheaaaDoor
/- nfa's Determinize: the plain facts, and what its loops keep in memory. -/
open Go.RowKit Go.Maps

/-- The words of a set of numbers. -/
structure WdsOf (ws : List Nat) (P : Nat → Prop) : Prop where
  can : Canon ws
  wds : Wds ws
  len : ws.length ≤ 64
  has : ∀ n, has ws n = true ↔ P n
theorem SetIs.of {w : World} {v : Value} {ws : List Nat} {P : Nat → Prop} (h : SetIs w v ws P) : WdsOf ws P := ⟨h.can, h.wds, h.len, h.has⟩
theorem wds_uniq {a b : List Nat} {P : Nat → Prop} (ha : WdsOf a P) (hb : WdsOf b P) : a = b := by
  have h : used a = used b := by
    rw [used_iff, ← has_iff ha.wds hb.wds]
    intro n
    rw [Bool.eq_iff_iff, ha.has, hb.has]
  rwa [ha.can.used, hb.can.used] at h
noncomputable def wordsOf (P : Nat → Prop) : List Nat := Classical.epsilon fun ws => WdsOf ws P
theorem wordsOf_eq {ws : List Nat} {P : Nat → Prop} (h : WdsOf ws P) : wordsOf P = ws :=
  wds_uniq (Classical.epsilon_spec (p := fun ws => WdsOf ws P) ⟨ws, h⟩) h
/-- The step of a set of states by a letter, in words. -/
noncomputable def nx (ar : List Ac) (ws : List Nat) (c : Int) : List Nat := wordsOf fun n => Sp ar (Els ws) c n
/-- The letters that arcs of the set have, in order. -/
def IsLets (ar : List Ac) (ws : List Nat) (l : List Int) : Prop := l.Pairwise (· < ·) ∧ ∀ c, c ∈ l ↔ ∃ x, x ∈ ar ∧ Els ws x.1 ∧ 1 ≤ x.2.1 ∧ x.2.1 = c
theorem asc_uniq : ∀ {a b : List Int}, a.Pairwise (· < ·) → b.Pairwise (· < ·) → (∀ c, c ∈ a ↔ c ∈ b) → a = b
  | [], [], _, _, _ => rfl
  | [], y :: b, _, _, h => by have := (h y).2 (by simp); cases this
  | x :: a, [], _, _, h => by have := (h x).1 (by simp); cases this
  | x :: a, y :: b, ha, hb, h => by
    have ha' := List.pairwise_cons.1 ha
    have hb' := List.pairwise_cons.1 hb
    have e : x = y := by
      rcases List.mem_cons.1 ((h x).1 (by simp)) with h1 | h1
      · exact h1
      · rcases List.mem_cons.1 ((h y).2 (by simp)) with h2 | h2
        · exact h2.symm
        · have := ha'.1 y h2; have := hb'.1 x h1; omega
    subst e
    rw [asc_uniq ha'.2 hb'.2 fun c => ?_]
    constructor
    · intro hc
      rcases List.mem_cons.1 ((h c).1 (by simp [hc])) with h1 | h1
      · have := ha'.1 c hc; omega
      · exact h1
    · intro hc
      rcases List.mem_cons.1 ((h c).2 (by simp [hc])) with h1 | h1
      · have := hb'.1 c hc; omega
      · exact h1
noncomputable def letsOf (ar : List Ac) (ws : List Nat) : List Int := Classical.epsilon fun l => IsLets ar ws l
theorem letsOf_eq {ar : List Ac} {ws : List Nat} {l : List Int} (h : IsLets ar ws l) : letsOf ar ws = l := by
  have h2 := Classical.epsilon_spec (p := fun l => IsLets ar ws l) ⟨l, h⟩
  exact asc_uniq h2.1 h.1 fun c => (h2.2 c).trans (h.2 c).symm
/-- One arc of the subset automaton: of set f, whose words are ws, by the letter c. -/
noncomputable def dst1 (ar : List Ac) (f : Nat) (ws : List Nat) (p : List (List Nat) × List Ac) (c : Int) : List (List Nat) × List Ac :=
  (if nx ar ws c ∈ p.1 then p.1 else p.1 ++ [nx ar ws c], p.2 ++ [((f : Int), c, ((p.1.idxOf (nx ar ws c) : Nat) : Int))])
noncomputable def drow (ar : List Ac) (p : List (List Nat) × List Ac) (f : Nat) : List (List Nat) × List Ac := (letsOf ar (p.1[f]?.getD [])).foldl (dst1 ar f (p.1[f]?.getD [])) p
noncomputable def dget (ar : List Ac) (s0 : List Nat) : Nat → List (List Nat) × List Ac
  | 0 => ([s0], [])
  | k + 1 => drow ar (dget ar s0 k) k
theorem foldl_take_succ {α β : Type} (g : β → α → β) (b : β) (l : List α) (k : Nat) (hk : k < l.length) : (l.take (k + 1)).foldl g b = g ((l.take k).foldl g b) l[k] := by
  rw [List.take_succ_eq_append_getElem hk, List.foldl_append]; rfl
/-- The step of a set, as the map of steps holds it. -/
theorem step_iff {S : Nat} {ar : List Ac} (hv : VA S ar) (ws : List Nat) (c : Int) (hc : 1 ≤ c) (n : Int) : (∃ x, (x ∈ ar ∧ Els ws x.1 ∧ 1 ≤ x.2.1) ∧ x.2.1 = c ∧ Rc ar [x.2.2] n) ↔ Sp ar (Els ws) c n := by
  constructor
  · rintro ⟨x, ⟨h1, h2, h3⟩, h4, h5⟩
    refine Cl.mono (fun m hm => ?_) (rc_cl.1 h5)
    rw [List.mem_singleton.1 hm]
    refine ⟨hc, by rw [← h4]; exact (hv.lt _ h1).2, x.1, h2, ?_⟩
    rw [← h4]; exact h1
  · intro h
    unfold Sp at h
    have hQ : ∀ m, Cl ar (Arr ar (Els ws) c) m → ∃ x, (x ∈ ar ∧ Els ws x.1 ∧ 1 ≤ x.2.1) ∧ x.2.1 = c ∧ Rc ar [x.2.2] m := by
      intro m hm
      induction hm with
      | base h0 =>
        obtain ⟨h1, h2, k, h3, h4⟩ := h0
        exact ⟨_, ⟨h4, h3, h1⟩, rfl, .base (by simp)⟩
      | step _ ha ih =>
        obtain ⟨x, h1, h2, h3⟩ := ih
        exact ⟨x, h1, h2, .step h3 ha⟩
    exact hQ n h
/-- The key of a set. -/
def ks (ws : List Nat) : Lit := .string (strOf (keyB ws)).data.toList
/-- The numbers of the sets, as the map holds them. -/
structure Dk (D : DataW Value) (S : List (List Nat)) : Prop where
  map : IsMap D
  hs : ∀ ws, Wds ws → (Maps.has D (ks ws) = true ↔ ws ∈ S)
  at_ : ∀ ws, ws ∈ S → ∀ z, D.atKey (ks ws) z = .held (.int .i64 ((S.idxOf ws : Nat) : Int))
  wf : ∀ ws, ws ∈ S → Canon ws ∧ Wds ws ∧ ws.length ≤ 64
  nd : S.Nodup
theorem ks_ne {a b : List Nat} (ha : Wds a) (hb : Wds b) (h : a ≠ b) : ks a ≠ ks b := fun e => h (key_inj ha hb (by
  unfold ks at e
  simp only [Lit.string.injEq] at e
  exact congrArg ByteArray.mk (Array.toList_inj.1 e)))
theorem Dk.put {D : DataW Value} {S : List (List Nat)} {s : List Nat} (h : Dk D S) (hs : s ∉ S) (hw : Canon s ∧ Wds s ∧ s.length ≤ 64) : Dk (D.put (ks s) (.held (.int .i64 ((S.length : Nat) : Int)))) (S ++ [s]) := by
  refine ⟨h.map.put _ _, fun ws hws => ?_, fun ws hws z => ?_, fun ws hws => ?_, ?_⟩
  · by_cases e : ws = s
    · subst e; rw [has_put_same h.map (by trivial)]; simp
    · rw [has_put_other (ks_ne hws hw.2.1 e), h.hs ws hws]; simp [e]
  · by_cases e : ws = s
    · subst e
      rw [atKey_put_same h.map (by trivial), List.idxOf_append, if_neg hs]; simp
    · have hm : ws ∈ S := by simpa [e] using hws
      rw [atKey_put_other (ks_ne (h.wf ws hm).2.1 hw.2.1 e), h.at_ ws hm, List.idxOf_append, if_pos hm]
  · rcases List.mem_append.1 hws with h1 | h1
    · exact h.wf ws h1
    · rw [List.mem_singleton.1 h1]; exact hw
  · rw [List.nodup_append]
    exact ⟨h.nd, by simp, fun a ha b hb e => hs (by rw [← List.mem_singleton.1 hb, ← e]; exact ha)⟩
theorem own_keepG {w w' : World} {B e sz n : Nat} {v : Value} {xs : List Value} (h : w.ownsRow B e sz v n xs) (hk : ∀ (g : Nat) (cs : Array Value), w.heap[g]? = some (.cells cs e (0, 0)) → w'.heap[g]? = w.heap[g]?) : w'.ownsRow B e sz v n xs := by
  refine ⟨h.1, ?_⟩
  rcases h.2 with hn | ⟨g, cap, cur, hv, hb, hg, rest⟩
  · exact .inl hn
  · exact .inr ⟨g, cap, cur, hv, hb, (hk g cur hg).trans hg, rest⟩
theorem map_keepG {H : Type} {P : Program} {k : TypeId} {R : Value → Option (DataW H × List MemPlace)} {w w' : World} {b n : Nat} {D : DataW H} (h : w.ownsMap P k R b n D) (hb : w'.heap[b]? = w.heap[b]?) : w'.ownsMap P k R b n D := by
  obtain ⟨es, cl, hb0, rest⟩ := h
  exact ⟨es, cl, hb.trans hb0, rest⟩
theorem map_blockG {H : Type} {P : Program} {k : TypeId} {R : Value → Option (DataW H × List MemPlace)} {w : World} {b n : Nat} {D : DataW H} (h : w.ownsMap P k R b n D) : ∃ es cl, w.heap[b]? = some (.map es cl) := by
  obtain ⟨es, cl, h, _⟩ := h; exact ⟨es, cl, h⟩
theorem Frm.grownG {w w' : World} {B e sz n : Nat} {v : Value} {xs : List Value} (hown : w.ownsRow B e sz v n xs) (hg : w.grownBy w' v.ownBlock) : Frm e B w w' :=
  ⟨hg.os, hg.tape, hg.output, hg.size, fun k hk hn => hg.block k hk (by
    intro he
    rcases hown.2 with ⟨rfl, _⟩ | ⟨g, cap, cur, rfl, hb, hh, _⟩
    · simp [Value.ownBlock] at he
    · simp [Value.ownBlock] at he
      subst he
      rcases hn with hn | hn
      · omega
      · exact hn _ _ hh)⟩
/-- append(s, c) of one element of three cells: it lies in a new block first. -/
theorem app1A {P : Program} {w : World} {ops : Array Oper} {rest : List Oper} {o : Oper} {a : Act} {Q : Exit → Act → World → Prop} (hgd : o.guard = none) (s x : Operand) (t : TypeId)
    (ho : o.op = .call { callee := .builtin .append, args := #[s, x], argTypes := #[t, t] })
    (e : TypeId) (z : Value) (by_ : Nat) (hinfo : (P.info? e).map (fun i => (i.zero, i.size, i.bytes)) = some (some z, 3, by_)) (hzs : z.cells.size = 3) (ht : P.underlying t = some (.slice e))
    (B : Nat) (v : Value) (n : Nat) (xs : List Value) (hs : a.eval s = v) (hown : w.ownsRow B e 3 v n xs) (c0 c1 c2 : Value) (hx : a.eval x = .slice (some ⟨w.heap.size, 0, none⟩) 1 1) (h1 : ∀ c ∈ [c0, c1, c2], c.oneCell' = true)
    (hr : (n + 1) * by_ ≤ 140737488355328) (hm : n + 1 ≤ 140737488355328) (hB : B ≤ w.heap.size)
    (h : ∀ v' w', w'.ownsRow B e 3 v' (n + 1) (xs ++ [c0, c1, c2]) → Frm e B w w' → wpList P ops Q rest (a.put o.dst v') w') : wpList P ops Q (o :: rest) a (w.alloc (.cells #[c0, c1, c2] e)) := by
  obtain ⟨i0, hi, hz0, hz1, hz2⟩ := info_parts hinfo
  have hal : (w.alloc (.cells #[c0, c1, c2] e)).ownsRow B e 3 v n xs := own_keepG hown fun g cs hg => Below.heap_alloc w _ g (lt_of_some hg)
  refine wpList_append_own _ hgd s x t ho B e i0 z 3 by_ ht hi hz0 hz1 hz2 hzs (by decide) v n xs hs hal ⟨w.heap.size, 0, none⟩ 1 1 [c0, c1, c2] hx rfl ?_ h1 ?_ hr ?_ ?_
  · intro j u hj
    have hj3 : j < 3 := by have := (List.getElem?_eq_some_iff.1 hj).1; simpa using this
    rw [show (⟨w.heap.size, 0, none⟩ : Addr).add j = ⟨w.heap.size, j, none⟩ by unfold Addr.add; split <;> simp_all]
    rw [cell_of_row _ _ j _ _ _ (heap_alloc_new w _)]
    match j, hj3, hj with
    | 0, _, hj => exact hj
    | 1, _, hj => exact hj
    | 2, _, hj => exact hj
  · unfold maxLen; omega
  · simp; omega
  · intro v' w' hown' hg _
    exact h v' w' hown' ((Frm.alloc_ w _).trans (Frm.grownG hal hg))
def acells (x : Ac) : List Value := [.int .i64 x.1, .int .i64 x.2.1, .int .i64 x.2.2]
/-- The subset automaton on its way, in memory: the box sb, the rows of sets and arcs, the map nb of numbers. -/
structure Dm (w : World) (B sb nb : Nat) (vS vA : Value) (vals : List Value) (S : List (List Nat)) (A : List Ac) (D : DataW Value) (nn : Nat) : Prop where
  bs : B ≤ sb
  box : w.heap[sb]? = some (.cells #[vS, .slice none 0 0, vA] 55 (0, 0))
  rs : w.ownsRow B 35 1 vS S.length vals
  ra : w.ownsRow B 52 3 vA A.length (A.flatMap acells)
  num : w.ownsMap Tryd.prog 9 Rv nb nn D
  sets : ∀ (i : Nat) (v : Value) (ws : List Nat), vals[i]? = some v → S[i]? = some ws → Wst w v ws
section
variable {w w' : World} {B sb nb nn n2 : Nat} {vS vA v' u : Value} {vals : List Value} {S : List (List Nat)} {A : List Ac} {D D2 : DataW Value} {s : List Nat} {x : Ac}
theorem Dm.keep (h : Dm w B sb nb vS vA vals S A D nn) (hk : ∀ (g : Nat) (o : Obj), w.heap[g]? = some o → w'.heap[g]? = w.heap[g]?) : Dm w' B sb nb vS vA vals S A D nn := by
  obtain ⟨es, cl, hm⟩ := map_blockG h.num
  exact ⟨h.bs, (hk _ _ h.box).trans h.box, own_keepG h.rs fun g cs hg => hk g _ hg, own_keepG h.ra fun g cs hg => hk g _ hg, map_keepG h.num (hk _ _ hm), fun i v ws h1 h2 => (h.sets i v ws h1 h2).keep fun g cs fr hg => hk g _ hg⟩
theorem Dm.below (h : Dm w B sb nb vS vA vals S A D nn) (hb : Below w.heap.size w w') : Dm w' B sb nb vS vA vals S A D nn := h.keep fun g _ hg => hb.block g (lt_of_some hg)
theorem Dm.num_put (h : Dm w B sb nb vS vA vals S A D nn) (hg : w.grownBy w' (some nb)) (ho : w'.ownsMap Tryd.prog 9 Rv nb n2 D2) : Dm w' B sb nb vS vA vals S A D2 n2 := by
  obtain ⟨es, cl, hm⟩ := map_blockG h.num
  have hk : ∀ (g : Nat) (cs : Array Value) (t : TypeId) (fr : Nat × Nat), w.heap[g]? = some (.cells cs t fr) → w'.heap[g]? = w.heap[g]? := fun g cs t fr h2 => hg.block g (lt_of_some h2) (fun e => by cases e; rw [hm] at h2; cases h2)
  exact ⟨h.bs, (hk _ _ _ _ h.box).trans h.box, own_keepG h.rs fun g cs hg => hk g _ _ _ hg, own_keepG h.ra fun g cs hg => hk g _ _ _ hg, ho, fun i v ws h1 h2 => (h.sets i v ws h1 h2).keep fun g cs fr hg => hk g _ _ _ hg⟩
/-- A store into the box. -/
theorem Dm.box_set (a0 a1 a2 : Value) (i : Nat) (hbox : w.heap[sb]? = some (.cells #[a0, a1, a2] 55 (0, 0))) : (w.setCell ⟨sb, i, none⟩ v').heap[sb]? = some (.cells (#[a0, a1, a2].setIfInBounds i v') 55 (0, 0)) := heap_setCell_same w sb i _ _ v' hbox
theorem Dm.far {a0 a1 a2 : Value} (i g : Nat) (o : Obj) (hbox : w.heap[sb]? = some (.cells #[a0, a1, a2] 55 (0, 0))) (hg : w.heap[g]? = some o) (hne : ∀ cs fr, o ≠ .cells cs 55 fr) : (w.setCell ⟨sb, i, none⟩ v').heap[g]? = w.heap[g]? :=
  Below.heap_setCell w ⟨sb, i, none⟩ v' g (fun e => by
    have e : g = sb := e
    rw [e, hbox] at hg
    cases hg
    exact hne _ _ rfl)
theorem Dm.putS (h : Dm w B sb nb vS vA vals S A D nn) (hf : Frm 35 B w w') (ho : w'.ownsRow B 35 1 v' (S.length + 1) (vals ++ [u])) (hu : Wst w u s) : Dm (w'.setCell ⟨sb, 0, none⟩ v') B sb nb v' vA (vals ++ [u]) (S ++ [s]) A D nn := by
  obtain ⟨es, cl, hm⟩ := map_blockG h.num
  have hbox := hf.keeps h.box (by decide)
  have hnum : w'.heap[nb]? = w.heap[nb]? := hf.block nb (lt_of_some hm) (.inr fun cs fr h2 => by rw [hm] at h2; cases h2)
  have hra : w'.ownsRow B 52 3 vA A.length (A.flatMap acells) := own_keepG h.ra fun g cs hg => hf.block g (lt_of_some hg) (.inr fun cs' fr h2 => by rw [hg] at h2; cases h2)
  have hset : ∀ (v : Value) (ws : List Nat), Wst w v ws → Wst (w'.setCell ⟨sb, 0, none⟩ v') v ws := fun v ws h2 => (h2.frm hf (by decide)).set hbox (by decide)
  have hvl : vals.length = S.length := by simpa using h.rs.1
  refine ⟨h.bs, Dm.box_set _ _ _ 0 hbox, ?_, own_keepG hra fun g cs hg => Dm.far 0 g _ hbox hg (by intro cs2 fr2 h2; cases h2), map_keepG (map_keepG h.num hnum) (Dm.far 0 nb _ hbox (hnum.trans hm) (by intro cs2 fr2 h2; cases h2)), fun i v ws h1 h2 => ?_⟩
  · rw [List.length_append, List.length_singleton]
    exact own_keepG ho fun g cs hg => Dm.far 0 g _ hbox hg (by intro cs2 fr2 h2; cases h2)
  · by_cases hi : i < S.length
    · rw [List.getElem?_append_left (by omega)] at h1 h2
      exact hset _ _ (h.sets i v ws h1 h2)
    · have hi2 : i = S.length := by have := (List.getElem?_eq_some_iff.1 h2).1; simp at this; omega
      subst hi2
      rw [List.getElem?_concat_length] at h2
      rw [← hvl, List.getElem?_concat_length] at h1
      cases h1; cases h2
      exact hset _ _ hu
theorem Dm.putA (h : Dm w B sb nb vS vA vals S A D nn) (hf : Frm 52 B w w') (ho : w'.ownsRow B 52 3 v' (A.length + 1) (A.flatMap acells ++ acells x)) : Dm (w'.setCell ⟨sb, 2, none⟩ v') B sb nb vS v' vals S (A ++ [x]) D nn := by
  obtain ⟨es, cl, hm⟩ := map_blockG h.num
  have hbox := hf.keeps h.box (by decide)
  have hnum : w'.heap[nb]? = w.heap[nb]? := hf.block nb (lt_of_some hm) (.inr fun cs fr h2 => by rw [hm] at h2; cases h2)
  have hrs : w'.ownsRow B 35 1 vS S.length vals := own_keepG h.rs fun g cs hg => hf.block g (lt_of_some hg) (.inr fun cs' fr h2 => by rw [hg] at h2; cases h2)
  refine ⟨h.bs, Dm.box_set _ _ _ 2 hbox, own_keepG hrs fun g cs hg => Dm.far 2 g _ hbox hg (by intro cs2 fr2 h2; cases h2), ?_, map_keepG (map_keepG h.num hnum) (Dm.far 2 nb _ hbox (hnum.trans hm) (by intro cs2 fr2 h2; cases h2)), fun i v ws h1 h2 => ((h.sets i v ws h1 h2).frm hf (by decide)).set hbox (by decide)⟩
  rw [List.length_append, List.length_singleton, List.flatMap_append, List.flatMap_singleton]
  exact own_keepG ho fun g cs hg => Dm.far 2 g _ hbox hg (by intro cs2 fr2 h2; cases h2)
end
/- nfa's Determinize: the walk (tools/det_gen.py). -/
open Go.RowKit Go.Maps

theorem results_cell_row2 {P : Program} {fn : Func} {p u : Tmp} {ty : TypeId} (h : fn.results = #[.cell p ty, .tmp u]) (tmps : Array Value) (w : World) (g : Nat) (t : TypeId) (cs : Array Value) (fr : Nat × Nat) (d : TypeDesc)
    (hp : tmps.getD p undef = .pointer (some ⟨g, 0, none⟩)) (hg : w.heap[g]? = some (.cells cs t fr))
    (hu : P.underlying ty = some d) (hd : (match d with | .struct _ | .array _ _ => true | _ => false) = true) (hi : (P.info? ty).map (·.size) = some cs.size) :
    (results fn tmps).run P w = .ok (.tuple #[.agg cs, tmps.getD u undef]) w := by
  rw [results_cell_tmp h]
  simp only [hp]
  simp [asAddr, Result.andThen, run_loadVar_row w g t ty cs fr d hg hu hd hi]
theorem heap_set_3 {w : World} {g t : Nat} {z0 z1 z2 : Value} (h : w.heap[g]? = some (.cells #[z0, z1, z2] t (0, 0))) (b0 b1 b2 : Value) :
    (((w.setCell ⟨g, 0, none⟩ b0).setCell ⟨g, 1, none⟩ b1).setCell ⟨g, 2, none⟩ b2).heap[g]? = some (.cells #[b0, b1, b2] t (0, 0)) :=
  heap_setCell_same _ g 2 _ _ b2 (heap_setCell_same _ g 1 _ _ b1 (heap_setCell_same _ g 0 _ _ b0 h))
theorem lawS : Keyed Tryd.prog 9 := string_keyed Tryd.underlying9
theorem ks_key (ws : List Nat) (h : ws.length ≤ 64) : keyOf Tryd.prog 9 (.string (strOf (keyB ws))) = some (ks ws) :=
  Go.WideMaps.keyOf_string_mk Tryd.underlying9 (by
    have e : (strOf (keyB ws)).size = (keyB ws).length := by simp [strOf, ByteArray.size]
    rw [e, keyB_len]; unfold maxLen; omega)
theorem num_store {w : World} {b n : Nat} {D : DataW Value} (h : w.ownsMap Tryd.prog 9 Rv b n D) {ws : List Nat} (hl : ws.length ≤ 64) (hn : n < maxLen) (v : Value) : ∃ w', (Instr.mapUpdate 79 (.map (some b)) (.string (strOf (keyB ws))) v).run Tryd.prog w = .ok () w' ∧ w'.ownsMap Tryd.prog 9 Rv b (n + 1) (D.put (ks ws) (.held v)) ∧ w.grownBy w' (some b) :=
  h.update lawS Tryd.underlying79 hn (ks_key ws hl) (rfl : Rv v = some (.held v, []))
theorem num_look {w : World} {b n : Nat} {D : DataW Value} (h : w.ownsMap Tryd.prog 9 Rv b n D) {ws : List Nat} (hl : ws.length ≤ 64) : ∃ u, (Instr.lookup 79 (.map (some b)) (.string (strOf (keyB ws))) true).run Tryd.prog w = .ok (.tuple #[u, .bool (Maps.has D (ks ws))]) w ∧ D.atKey (ks ws) (.held (.int .i64 0)) = .held u := by
  obtain ⟨u, ps, h1, h2⟩ := h.look_ok lawS Tryd.underlying79 (Tryd.zeroValue3 w) (rfl : Rv (.int .i64 0) = some (.held (.int .i64 0), [])) (ks_key ws hl)
  unfold Rv at h2
  simp only [Option.some.injEq, Prod.mk.injEq] at h2
  exact ⟨u, h1, h2.1.symm⟩
theorem info_arc : (Tryd.prog.info? 52).map (fun i => (i.zero, i.size, i.bytes)) = some (some (.agg #[.int .i64 0, .int .i64 0, .int .i64 0]), 3, 24) := by kernel_rfl
theorem own_shapeG {w : World} {B e sz n : Nat} {v : Value} {xs : List Value} (h : w.ownsRow B e sz v n xs) : ∃ A c, v = .slice A n c := by
  rcases h.2 with ⟨rfl, h0⟩ | ⟨g, cap, cur, rfl, _⟩
  · exact ⟨none, 0, by rw [h0]⟩
  · exact ⟨_, cap, rfl⟩
theorem Dk.nil : Dk (.map []) [] := ⟨⟨_, rfl⟩, (fun ws _ => ⟨fun h => absurd h (by simp [Maps.has]), fun h => absurd h (by simp)⟩), (fun ws h => absurd h (by simp)), (fun ws h => absurd h (by simp)), (by simp)⟩
/-- What is neither a part of the subset automaton on its way nor its map stays. -/
structure Fd (nb : Nat) (w w' : World) : Prop where
  size : w.heap.size ≤ w'.heap.size
  keep : ∀ (g : Nat) (o : Obj), w.heap[g]? = some o → g ≠ nb → (∀ cs t fr, o = .cells cs t fr → t ≠ 55 ∧ t ≠ 35 ∧ t ≠ 52) → w'.heap[g]? = w.heap[g]?
theorem Fd.refl (nb : Nat) (w : World) : Fd nb w w := ⟨Nat.le_refl _, fun _ _ _ _ _ => rfl⟩
theorem Fd.trans {nb : Nat} {a b c : World} (h : Fd nb a b) (k : Fd nb b c) : Fd nb a c :=
  ⟨Nat.le_trans h.size k.size, fun g o h1 h2 h3 => by
    have e := h.keep g o h1 h2 h3
    exact (k.keep g o (e.trans h1) h2 h3).trans e⟩
theorem Fd.below {nb : Nat} {w w' : World} (h : Below w.heap.size w w') : Fd nb w w' := ⟨h.size, fun g _ h1 _ _ => h.block g (lt_of_some h1)⟩
theorem Fd.grown {nb : Nat} {w w' : World} (h : w.grownBy w' (some nb)) : Fd nb w w' := ⟨h.size, fun g _ h1 h2 _ => h.block g (lt_of_some h1) (fun e => h2 (Option.some.inj e))⟩
theorem Fd.frmS {nb B : Nat} {w w' : World} (h : Frm 35 B w w') : Fd nb w w' := ⟨h.size, fun g _ h1 _ h3 => h.block g (lt_of_some h1) (.inr fun cs fr e => (h3 cs _ fr (Option.some.inj (h1.symm.trans e))).2.1 rfl)⟩
theorem Fd.frmA {nb B : Nat} {w w' : World} (h : Frm 52 B w w') : Fd nb w w' := ⟨h.size, fun g _ h1 _ h3 => h.block g (lt_of_some h1) (.inr fun cs fr e => (h3 cs _ fr (Option.some.inj (h1.symm.trans e))).2.2 rfl)⟩
theorem Fd.set {nb sb i : Nat} {w : World} {v : Value} {cs0 : Array Value} {fr0 : Nat × Nat} (hb : w.heap[sb]? = some (.cells cs0 55 fr0)) : Fd nb w (w.setCell ⟨sb, i, none⟩ v) :=
  ⟨by simp [World.setCell], fun g _ h1 _ h3 => Below.heap_setCell w ⟨sb, i, none⟩ v g (fun e => by
    have e : g = sb := e
    rw [e, hb] at h1
    exact (h3 _ _ _ (Option.some.inj h1).symm).1 rfl)⟩
theorem Fd.wst {nb n : Nat} {w w' : World} {D : DataW Value} {v : Value} {ws : List Nat} (h : Fd nb w w') (hm : w.ownsMap Tryd.prog 9 Rv nb n D) (hs : Wst w v ws) : Wst w' v ws := by
  obtain ⟨es, cl, hm⟩ := map_blockG hm
  exact hs.keep fun g cs fr hg => h.keep g _ hg (fun e => by subst e; rw [hm] at hg; cases hg) fun _ _ _ e => by cases e; exact ⟨by decide, by decide, by decide⟩
theorem Fd.ints {nb n m B : Nat} {w w' : World} {D : DataW Value} {v : Value} {xs : List Value} (h : Fd nb w w') (hm : w.ownsMap Tryd.prog 9 Rv nb n D) (hs : w.ownsRow B 3 1 v m xs) : w'.ownsRow B 3 1 v m xs := by
  obtain ⟨es, cl, hm⟩ := map_blockG hm
  exact own_keepG hs fun g cs hg => h.keep g _ hg (fun e => by subst e; rw [hm] at hg; cases hg) fun _ _ _ e => by cases e; exact ⟨by decide, by decide, by decide⟩
theorem Fd.map {nb b n : Nat} {w w' : World} {D : DataW Value} (h : Fd nb w w') (hm : w.ownsMap Tryd.prog 3 Rv b n D) (hne : b ≠ nb) : w'.ownsMap Tryd.prog 3 Rv b n D := by
  obtain ⟨es, cl, hb⟩ := map_blockG hm
  exact map_keepG hm (h.keep b _ hb hne fun _ _ _ e => by cases e)
section
variable {w : World} {B sb nb nn : Nat} {vS vA : Value} {vals : List Value} {S : List (List Nat)} {A : List Ac} {D : DataW Value}
theorem Dm.c0 (h : Dm w B sb nb vS vA vals S A D nn) : w.cell? ⟨sb, 0, none⟩ = some vS := cell_of_row _ _ 0 _ _ _ h.box
theorem Dm.c2 (h : Dm w B sb nb vS vA vals S A D nn) : w.cell? ⟨sb, 2, none⟩ = some vA := cell_of_row _ _ 2 _ _ _ h.box
theorem Dm.vl (h : Dm w B sb nb vS vA vals S A D nn) : vals.length = S.length := by simpa using h.rs.1
theorem Dm.at (h : Dm w B sb nb vS vA vals S A D nn) (k : Nat) (hk : k < S.length) : ∃ ad c u, vS = .slice (some ad) S.length c ∧ S.length ≤ c ∧ w.cell? (ad.add k) = some u ∧ Wst w u S[k] := by
  have hv := h.vl
  have hcl := @World.ownsRow.cells _ _ _ _ _ _ _ h.rs
  rcases h.rs.2 with ⟨_, h0⟩ | ⟨g, cap, cur, rfl, _, _, hn, _⟩
  · omega
  · refine ⟨_, cap, vals[k], rfl, hn, hcl (g := g) rfl k _ (List.getElem?_eq_getElem (by omega)), h.sets k _ _ (List.getElem?_eq_getElem (by omega)) (List.getElem?_eq_getElem hk)⟩
end
/-- One round of the letters: the state behind it. -/
theorem dst1_known {ar : List Ac} {f : Nat} {ws s : List Nat} {SS : List (List Nat)} {A : List Ac} {c : Int} (hs : nx ar ws c = s) (h : s ∈ SS) : dst1 ar f ws (SS, A) c = (SS, A ++ [((f : Int), c, ((SS.idxOf s : Nat) : Int))]) := by
  unfold dst1; rw [hs]; dsimp only; rw [if_pos h]
theorem dst1_new {ar : List Ac} {f : Nat} {ws s : List Nat} {SS : List (List Nat)} {A : List Ac} {c : Int} (hs : nx ar ws c = s) (h : s ∉ SS) : dst1 ar f ws (SS, A) c = (SS ++ [s], A ++ [((f : Int), c, ((SS.length : Nat) : Int))]) := by
  unfold dst1; rw [hs]; dsimp only; rw [if_neg h, List.idxOf_eq_length h]
/-- What Determinize answers. -/
def DetP (S0 : Nat) (ar : List Ac) (st : List Int) (fin : List Bool) (L : Int) (w : World) (e : Ending) (w' : World) : Prop :=
  ∃ (k : Nat) (SS : List (List Nat)) (A : List Ac), dget ar (wordsOf fun n => Rc ar st n) k = (SS, A) ∧ k ≤ SS.length ∧ (∀ i, i < k → i < (dget ar (wordsOf fun n => Rc ar st n) i).1.length ∧ ((dget ar (wordsOf fun n => Rc ar st n) i).1.length : Int) ≤ L) ∧ SS.Nodup ∧ (∀ ws, ws ∈ SS → Canon ws ∧ Wds ws ∧ ws.length ≤ 64) ∧ (∀ ws, ws ∈ SS → ∀ n, has ws n = true → n < S0) ∧ SS.length ≤ 20000 ∧ A.length ≤ 20000000 ∧ Below w.heap.size w w' ∧
    ((L < (SS.length : Int) ∧ e = .returned (.tuple #[.agg #[.slice none 0 0, .slice none 0 0, .slice none 0 0], .int .i64 6])) ∨
     ((SS.length : Int) ≤ L ∧ k = SS.length ∧ ∃ (vS vF vA : Value) (vals : List Value), e = .returned (.tuple #[.agg #[vS, vF, vA], .int .i64 0]) ∧ w'.ownsRow w.heap.size 35 1 vS SS.length vals ∧ (∀ (i : Nat) (v : Value) (ws : List Nat), vals[i]? = some v → SS[i]? = some ws → Wst w' v ws) ∧
        w'.ownsRow w.heap.size 4 1 vF SS.length (SS.map fun ws => bl (FinB fin ws)) ∧ w'.ownsRow w.heap.size 52 3 vA A.length (A.flatMap acells)))
structure Dst (S0 : Nat) (wr : World) (B sb nb : Nat) (vS vA : Value) (vals : List Value) (SS : List (List Nat)) (A : List Ac) (D : DataW Value) (nn : Nat) : Prop where
  m : Dm wr B sb nb vS vA vals SS A D nn
  k : Dk D SS
  n : nn ≤ SS.length
  b : ∀ ws, ws ∈ SS → ∀ n, has ws n = true → n < S0
def Do (S0 : Nat) (wA : World) (B sb nb : Nat) (ar : List Ac) (s0 : List Nat) (L : Int) (i : Value) (wr : World) : Prop :=
  ∃ (k : Nat) (vS vA : Value) (vals : List Value) (SS : List (List Nat)) (A : List Ac) (D : DataW Value) (nn : Nat), i = .int .i64 k ∧ k ≤ 1000 ∧ dget ar s0 k = (SS, A) ∧ k ≤ SS.length ∧ Dst S0 wr B sb nb vS vA vals SS A D nn ∧ SS.length ≤ 20000 ∧ A.length ≤ 20000 * k ∧ Below B wA wr ∧ B ≤ wr.heap.size ∧ ∀ i, i < k → i < (dget ar s0 i).1.length ∧ ((dget ar s0 i).1.length : Int) ≤ L
def Di (S0 : Nat) (wA w6 : World) (B sb nb : Nat) (ar : List Ac) (f : Nat) (ws : List Nat) (p0 : List (List Nat) × List Ac) (ls : List Int) (i : Value) (wr : World) : Prop :=
  ∃ (j : Nat) (vS vA : Value) (vals : List Value) (SS : List (List Nat)) (A : List Ac) (D : DataW Value) (nn : Nat), j ≤ ls.length ∧ i = .int .i64 j ∧ (ls.take j).foldl (dst1 ar f ws) p0 = (SS, A) ∧ Dst S0 wr B sb nb vS vA vals SS A D nn ∧ p0.1.length ≤ SS.length ∧ SS.length ≤ 1000 + j ∧ A.length ≤ 20000 * f + j ∧ Below B wA wr ∧ B ≤ wr.heap.size ∧ Fd nb w6 wr
end Go.Proofs.YtockgbilbnheaaaDoor
