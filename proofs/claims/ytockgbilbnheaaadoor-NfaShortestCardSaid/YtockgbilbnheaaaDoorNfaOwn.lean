/- The law package's Own: an automaton of the program made of one of the reference. -/
import Derived.Test.YtockgbilbnheaaaDoorNfaEx
import Derived.Test.YtockgbilbnheaaaDoorNfaDet
import Derived.Test.YtockgbilbnheaaaDoorRegInv
import Derived.Deep.AppendLies
namespace Go.Proofs.YtockgbilbnheaaaDoor
/- The law package's Own: an automaton of the program made of one of the reference. -/
open Go.RowKit

theorem addr_lit0 (b k : Nat) : (⟨b, 0, none⟩ : Addr).add k = ⟨b, k, none⟩ := by unfold Addr.add; split <;> simp_all
theorem three_cell {w : World} {g : Nat} {a b c : Value} {t : TypeId} (h : w.heap[g]? = some (.cells #[a, b, c] t (0, 0))) : ∀ (j : Nat) u, [a, b, c][j]? = some u → w.cell? ((⟨g, 0, none⟩ : Addr).add j) = some u := by
 intro j u hj
 rw [addr_lit0, cell_of_row w g j _ _ _ h, ← Array.getElem?_toList]
 exact hj
/-- Blocks that the region has made stay. -/
structure Nst (n0 : Nat) (w w' : World) : Prop where
 size : w.heap.size ≤ w'.heap.size
 block : ∀ g, n0 ≤ g → g < w.heap.size → w'.heap[g]? = w.heap[g]?
theorem Nst.below {n0 : Nat} {w w' : World} (h : Below w.heap.size w w') : Nst n0 w w' := ⟨h.size, fun g _ hg => h.block g hg⟩
/-- Own's memory: the argument's box, the result's cell, what is built, its arcs. -/
structure OwM (wA : World) (S sv fv v cur : Value) (l : List Ac) (w : World) : Prop where
 box : w.heap[wA.heap.size]? = some (.cells #[S, sv, fv, v] 26 (0, 0))
 res : w.heap[wA.heap.size + 1]? = some (.cells #[.int .i64 0, .slice none 0 0, .slice none 0 0, .slice none 0 0] 32 (0, 0))
 out : w.heap[wA.heap.size + 1 + 1]? = some (.cells #[S, sv, fv, cur] 32 (0, 0))
 below : Below wA.heap.size wA w
 size : wA.heap.size + 3 ≤ w.heap.size
def OwR (wA : World) (w : World) (cur : Value) (l : List Ac) : Prop := w.ownsRow (wA.heap.size + 3) 52 3 cur l.length (l.flatMap acells)
section
variable {wA w w' : World} {S sv fv v cur u : Value} {l : List Ac}
theorem OwM.ext (h : OwM wA S sv fv v cur l w) (hb : Below w.heap.size w w') : OwM wA S sv fv v cur l w' :=
 ⟨(hb.block _ (lt_of_some h.box)).trans h.box, (hb.block _ (lt_of_some h.res)).trans h.res, (hb.block _ (lt_of_some h.out)).trans h.out, h.below.trans (hb.mono (by have := h.size; omega)), Nat.le_trans h.size hb.size⟩
theorem OwR.ext (h : OwR wA w cur l) (hb : Below w.heap.size w w') : OwR wA w' cur l :=
 World.ownsRow.kept (row := none) h ⟨hb.os, hb.tape, hb.output, hb.size, fun k hk _ => hb.block k hk⟩ (by cases cur.ownBlock <;> simp)
theorem OwM.grown (h : OwM wA S sv fv v cur l w) (hr : OwR wA w u l) (hg : w.grownBy w' u.ownBlock) : OwM wA S sv fv v cur l w' := by
 have hne : ∀ k, k < wA.heap.size + 3 → some k ≠ u.ownBlock := fun k hk e => by have := (World.ownsRow.lt hr k e.symm).1; omega
 have hs := h.size
 exact ⟨(hg.block _ (by omega) (hne _ (by omega))).trans h.box, (hg.block _ (by omega) (hne _ (by omega))).trans h.res, (hg.block _ (by omega) (hne _ (by omega))).trans h.out, h.below.grown hg (by omega) (fun k e => by have := (World.ownsRow.lt hr k e).1; omega), Nat.le_trans hs hg.size⟩
theorem OwM.put (h : OwM wA S sv fv v cur l w) (u : Value) : OwM wA S sv fv v u l (w.setCell ⟨wA.heap.size + 1 + 1, 3, none⟩ u) := by
 refine ⟨?_, ?_, ?_, h.below.setCell (p := ⟨wA.heap.size + 1 + 1, 3, none⟩) (by simp; omega) u, by simpa [World.setCell] using h.size⟩
 ·rw [Below.heap_setCell w ⟨wA.heap.size + 1 + 1, 3, none⟩ u _ (by simp; omega)]; exact h.box
 ·rw [Below.heap_setCell w ⟨wA.heap.size + 1 + 1, 3, none⟩ u _ (by simp)]; exact h.res
 ·exact heap_set h.out
theorem OwR.put (h : OwR wA w cur l) (x : Value) (i : Nat) : OwR wA (w.setCell ⟨wA.heap.size + 1 + 1, i, none⟩ x) cur l := ownsRow_setCell_below h (by simp) x
end
def SelV (b : Bool) (v u : Value) : Value := if b then u else v
def SelA (b : Bool) (xs : List Ac) (c : Ac) : List Ac := if b then xs ++ [c] else xs
def OwS (wA : World) (S sv fv v cur : Value) (l : List Ac) (x : Ac) (n0 : Nat) (L : Nat → Bool) (vs : Nat → Value) (w : World) : Prop :=
 OwM wA S sv fv v (SelV (L 10) cur (vs 8)) l w ∧ OwR wA w (SelV (L 8) cur (vs 8)) (SelA (L 8) l x) ∧ n0 ≤ w.heap.size
def OwPh (ob bb k : Nat) (cur v : Value) (ad : Addr) (x : Ac) (n0 : Nat) : Nat → Value → World → Prop
 | 0, u, _ => u = .pointer (some ⟨ob, 3, none⟩)
 | 1, u, _ => u = cur
 | 2, u, _ => u = .pointer (some ⟨bb, 3, none⟩)
 | 3, u, _ => u = v
 | 4, u, _ => u = .int .i64 (k : Int)
 | 5, u, _ => u = .pointer (some (ad.add (k * 3)))
 | 6, u, _ => u = av x
 | 7, u, w => ∃ g, u = .slice (some ⟨g, 0, none⟩) 1 1 ∧ n0 ≤ g ∧ w.heap[g]? = some (.cells #[.int .i64 x.1, .int .i64 x.2.1, .int .i64 x.2.2] 52 (0, 0))
 | 9, u, _ => u = .pointer (some ⟨ob, 3, none⟩)
 | _, _, _ => True
theorem OwPh.stay {ob bb k : Nat} {cur v : Value} {ad : Addr} {x : Ac} {n0 : Nat} {w w' : World} (hr : Nst n0 w w') (i : Nat) (u : Value) (h : OwPh ob bb k cur v ad x n0 i u w) : OwPh ob bb k cur v ad x n0 i u w' := by
 unfold OwPh at h ⊢
 split at h
 case h_8 => obtain ⟨g, h1, h2, h3⟩ := h; exact ⟨g, h1, h2, (hr.block g h2 (lt_of_some h3)).trans h3⟩
 all_goals first | exact h | trivial
def Inv3 (Phi : Nat → Value → World → Prop) (S : (Nat → Bool) → (Nat → Value) → World → Prop) (L : Nat → Bool) (vs : Nat → Value) (w : World) : Prop := (∀ i, L i = true → Phi i (vs i) w) ∧ S L vs w
theorem Inv3.step {Phi : Nat → Value → World → Prop} {S : (Nat → Bool) → (Nat → Value) → World → Prop} {L : Nat → Bool} {vs : Nat → Value} {w w' : World} {i : Nat} {v : Value}
  (h : Inv3 Phi S L vs w) (hR : ∀ j u, Phi j u w → Phi j u w') (hp : Phi i v w') (hs : S (updB L i) (updV vs i v) w') : Inv3 Phi S (updB L i) (updV vs i v) w' := by
 refine ⟨fun j hj => ?_, hs⟩
 by_cases e : j = i
 ·subst e
  rw [updV_self]; exact hp
 ·rw [updB_ne _ e] at hj
  rw [updV_ne _ _ e]
  exact hR _ _ (h.1 j hj)
section
variable {wA w w' : World} {S sv fv v cur : Value} {l : List Ac} {x : Ac} {n0 : Nat} {L : Nat → Bool} {vs : Nat → Value}
theorem OwS.quiet {i : Nat} {u : Value} (h : OwS wA S sv fv v cur l x n0 L vs w) (h1 : 8 ≠ i) (h2 : 10 ≠ i) : OwS wA S sv fv v cur l x n0 (updB L i) (updV vs i u) w := by
 unfold OwS at h ⊢
 rw [updB_ne L h1, updB_ne L h2, updV_ne vs u h1]
 exact h
theorem OwS.ext (h : OwS wA S sv fv v cur l x n0 L vs w) (hb : Below w.heap.size w w') : OwS wA S sv fv v cur l x n0 L vs w' := ⟨h.1.ext hb, h.2.1.ext hb, Nat.le_trans h.2.2 hb.size⟩
theorem flat_snoc (l : List Ac) (x : Ac) : (l ++ [x]).flatMap acells = l.flatMap acells ++ [.int .i64 x.1, .int .i64 x.2.1, .int .i64 x.2.2] := by simp [acells]
theorem OwS.grow {g cap : Nat} (h : OwS wA S sv fv v cur l x n0 L vs w) (h8 : L 8 = false) (h10 : L 10 = false) (hown : w'.ownsRow (wA.heap.size + 3) 52 3 (.slice (some ⟨g, 0, none⟩) (l.length + 1) cap) (l.length + 1) (l.flatMap acells ++ [.int .i64 x.1, .int .i64 x.2.1, .int .i64 x.2.2])) (hg : w.grownBy w' cur.ownBlock) :
  OwS wA S sv fv v cur l x n0 (updB L 8) (updV vs 8 (.slice (some ⟨g, 0, none⟩) (l.length + 1) cap)) w' := by
 obtain ⟨h1, h2, h3⟩ := h
 rw [h8] at h2
 rw [h10] at h1
 have e10 : (updB L 8) 10 = false := (updB_ne L (by decide)).trans h10
 refine ⟨by rw [e10]; exact h1.grown h2 hg, ?_, Nat.le_trans h3 hg.size⟩
 rw [updB_self, updV_self]
 unfold OwR SelV SelA
 rw [if_pos rfl, if_pos rfl, flat_snoc, List.length_append]
 exact hown
theorem OwS.store (h : OwS wA S sv fv v cur l x n0 L vs w) (u : Value) : OwS wA S sv fv v cur l x n0 (updB L 10) (updV vs 10 u) (w.setCell ⟨wA.heap.size + 1 + 1, 3, none⟩ (vs 8)) := by
 obtain ⟨h1, h2, h3⟩ := h
 unfold OwS
 rw [updB_self, updB_ne L (show 8 ≠ 10 by decide), updV_ne vs u (show 8 ≠ 10 by decide)]
 exact ⟨h1.put _, h2.put _ _, by simpa [World.setCell] using h3⟩
theorem OwS.all (h : OwS wA S sv fv v cur l x n0 L vs w) (hl : ∀ i, i < 11 → L i = true) : OwM wA S sv fv v (vs 8) (l ++ [x]) w ∧ OwR wA w (vs 8) (l ++ [x]) := by
 obtain ⟨h1, h2, h3⟩ := h
 rw [hl 8 (by decide)] at h2
 rw [hl 10 (by decide)] at h1
 exact ⟨⟨h1.box, h1.res, h1.out, h1.below, h1.size⟩, h2⟩
theorem OwS.row (h : OwS wA S sv fv v cur l x n0 L vs w) (hl : L 8 = false) : w.ownsRow (wA.heap.size + 3) 52 3 cur l.length (l.flatMap acells) := by have := h.2.1; rwa [hl] at this
end
theorem acs_own {w : World} {B n : Nat} {v : Value} {l : List Ac} (h : w.ownsRow B 52 3 v n (l.flatMap acells)) : Acs w v l := by
 have hfl : ∀ l : List Ac, (l.flatMap acells).length = l.length * 3 := fun l => by
  induction l with
  | nil => rfl
  | cons a l ih => rw [List.flatMap_cons, List.length_append, ih]; simp [acells]; omega
 have hl : l.length = n := by have := h.1; rw [hfl] at this; omega
 have hcl := @World.ownsRow.cells _ _ _ _ _ _ _ h
 rcases h.2 with ⟨rfl, h0⟩ | ⟨g, cap, cur, rfl, _, _, hn, _⟩
 ·exact .inl ⟨rfl, List.eq_nil_of_length_eq_zero (by omega)⟩
 ·refine .inr ⟨⟨g, 0, none⟩, cap, by rw [hl], by omega, fun j x hj => ?_⟩
  have key : ∀ (l : List Ac) (j : Nat) (x : Ac), l[j]? = some x → (l.flatMap acells)[j * 3]? = some (.int .i64 x.1) ∧ (l.flatMap acells)[j * 3 + 1]? = some (.int .i64 x.2.1) ∧ (l.flatMap acells)[j * 3 + 2]? = some (.int .i64 x.2.2) := by
   intro l
   induction l with
   | nil => intro j x h; simp at h
   | cons a l ih =>
    intro j x h
    cases j with
    | zero => simp at h; subst h; exact ⟨rfl, rfl, rfl⟩
    | succ j =>
     rw [List.getElem?_cons_succ] at h
     have := ih j x h
     rw [List.flatMap_cons]
     refine ⟨?_, ?_, ?_⟩
     ·rw [List.getElem?_append_right (by simp [acells]; omega), show (j + 1) * 3 - (acells a).length = j * 3 by simp [acells]; omega]; exact this.1
     ·rw [List.getElem?_append_right (by simp [acells]; omega), show (j + 1) * 3 + 1 - (acells a).length = j * 3 + 1 by simp [acells]; omega]; exact this.2.1
     ·rw [List.getElem?_append_right (by simp [acells]; omega), show (j + 1) * 3 + 2 - (acells a).length = j * 3 + 2 by simp [acells]; omega]; exact this.2.2
  obtain ⟨k0, k1, k2⟩ := key l j x hj
  unfold Ak
  rw [addr_lit0]
  have q0 := hcl (g := g) rfl _ _ k0
  have q1 := hcl (g := g) rfl _ _ k1
  have q2 := hcl (g := g) rfl _ _ k2
  rw [addr_lit0] at q0 q1 q2
  exact ⟨q0, q1, q2⟩
/- The law package's Own: the walk. -/
open Go.RowKit

theorem heap_set_4 {w : World} {g t : Nat} {z0 z1 z2 z3 : Value} (h : w.heap[g]? = some (.cells #[z0, z1, z2, z3] t (0, 0))) (b0 b1 b2 b3 : Value) :
  ((((w.setCell ⟨g, 0, none⟩ b0).setCell ⟨g, 1, none⟩ b1).setCell ⟨g, 2, none⟩ b2).setCell ⟨g, 3, none⟩ b3).heap[g]? = some (.cells #[b0, b1, b2, b3] t (0, 0)) :=
 heap_set (heap_set (heap_set (heap_set h)))
/-- An automaton of the program with the same fields; its arcs are new. -/
def OwnP (S sv fv : Value) (l : List Ac) (w : World) (e : Ending) (w' : World) : Prop := ∃ v', e = .returned (.agg #[S, sv, fv, v']) ∧ Acs w' v' l ∧ Below w.heap.size w w'
set_option maxRecDepth 100000 in
set_option maxHeartbeats 8000000 in
theorem own_any (S : Int) (A1 A2 : Option Addr) (n1 c1 n2 c2 : Nat) (v : Value) (ar : List Ac) (w : World) (ha : Acs w v ar) (hal : ar.length ≤ 10000) :
  Calls Tryd.prog 8 #[.agg #[.int .i64 S, .slice A1 n1 c1, .slice A2 n2 c2, v]] w (OwnP (.int .i64 S) (.slice A1 n1 c1) (.slice A2 n2 c2) ar w) := by
 obtain ⟨Aa, ca, rfl⟩ := ha.shape
 have Ha := Lib.hid ha
 clear ha
 obtain ⟨i0, hi, hz0, hz1, hz2⟩ := info_parts info_arc
 obtain ⟨W, hW⟩ : ∃ W, W = ((w.alloc (.cells #[.int .i64 S, .slice A1 n1 c1, .slice A2 n2 c2, .slice Aa ar.length ca] 26)).alloc (.cells #[.int .i64 0, .slice none 0 0, .slice none 0 0, .slice none 0 0] 32)).alloc (.cells #[.int .i64 S, .slice A1 n1 c1, .slice A2 n2 c2, .slice none 0 0] 32) := ⟨_, rfl⟩
 have hM : OwM w (.int .i64 S) (.slice A1 n1 c1) (.slice A2 n2 c2) (.slice Aa ar.length ca) (.slice none 0 0) ([] : List Ac) W := by
  obtain ⟨h1, h2, h3⟩ := heap_alloc_3 w (.cells #[.int .i64 S, .slice A1 n1 c1, .slice A2 n2 c2, .slice Aa ar.length ca] 26) (.cells #[.int .i64 0, .slice none 0 0, .slice none 0 0, .slice none 0 0] 32) (.cells #[.int .i64 S, .slice A1 n1 c1, .slice A2 n2 c2, .slice none 0 0] 32)
  rw [hW]
  exact ⟨h1, h2, h3, (((Below.refl _ w).alloc (Nat.le_refl _) _).alloc (by simp) _).alloc (by simp; omega) _, by simp⟩
 have HM := Lib.hid hM; have HW := Lib.hid hW
 clear hM hW
 go_enter Tryd.func8, Tryd.ntmps8
 go_wp2_with fail
 rw [← HW.out]
 go_loopw [15] (fun i wr => ∃ (k : Nat) (cur : Value), k ≤ ar.length ∧ i = .int .i64 k ∧ OwM w (.int .i64 S) (.slice A1 n1 c1) (.slice A2 n2 c2) (.slice Aa ar.length ca) cur (ar.take k) wr ∧ OwR w wr cur (ar.take k)) (fun i _ => ar.length - (intOf i).toNat)
 case atStart => exact ⟨0, _, Nat.zero_le _, rfl, ⟨HM.out.box, HM.out.res, HM.out.out, HM.out.below, HM.out.size⟩, World.ownsRow_nil _ _ _ _⟩
 case round =>
  obtain ⟨k, cur, hk, rfl, hm, hr⟩ := hrel
  have Hm := Lib.hid hm; have Hr := Lib.hid hr
  clear hm hr
  by_cases hlt : k < ar.length
  ·obtain ⟨ad, rfl, _, hcap, y0, y1, y2⟩ := Ha.out.at k hlt
   have htk : ar.take (k + 1) = ar.take k ++ [ar[k]] := List.take_succ_eq_append_getElem hlt
   have hll : (ar.take k).length = k := by rw [List.length_take]; omega
   obtain ⟨x, hx⟩ : ∃ x, x = ar[k] := ⟨_, rfl⟩
   rw [← hx] at y0 y1 y2 htk
   have Htk := Lib.hid htk
   clear hx htk
   have KA := Lib.hid (show ∀ w', Below w.heap.size w w' → Ak w' (ad.add (k * 3)) x from fun w' h => (Ak.below (⟨y0, y1, y2⟩ : Ak w (ad.add (k * 3)) x) h))
   clear y0 y1 y2
   generalize ar.take k = l at *
   have hk0 : (0 : Int) ≤ (k : Int) := by omega
   have hk1 : (k : Int) < (ar.length : Int) := by omega
   have hu29 : Tryd.prog.underlying 30 = some (.slice 52) := by kernel_rfl
   go_wp2_with fail
   refine region_inv (n := 30) (Inv3 (OwPh (w.heap.size + 1 + 1) w.heap.size k cur (.slice (some ad) ar.length ca) ad x wr.heap.size) (OwS w (.int .i64 S) (.slice A1 n1 c1) (.slice A2 n2 c2) (.slice (some ad) ar.length ca) cur l x wr.heap.size)) (by kernel_rfl) (by kernel_rfl) rfl ?_ (allOps_spec ?_) ?_
   ·intro vs
    exact ⟨(fun i h => by cases h), ⟨Hm.out.ext (Below.drewN' (Below.refl _ wr) 1), Hr.out.ext (Below.drewN' (Below.refl _ wr) 1), Nat.le_refl _⟩⟩
   ·refine ⟨?_, ?_, ?_, ?_, ?_, ?_, ?_, ?_, ?_, ?_, ?_, trivial⟩
    ·intro L vs a w2 hB hL hd hI
     have b3 : a.tmps[3]?.getD undef = .pointer (some ⟨w.heap.size + 1 + 1, 0, none⟩) := hB.at 3 (by kernel_rfl)
     exact stepI_run (v := .pointer (some ⟨w.heap.size + 1 + 1, 3, none⟩)) rfl (by simp [execOp, go_sem, Act.eval, b3]) (hI.step (fun _ _ h => h) rfl (hI.2.quiet (by decide) (by decide)))
    ·intro L vs a w2 hB hL hd hI
     have b18 : a.tmps[18]?.getD undef = .pointer (some ⟨w.heap.size + 1 + 1, 3, none⟩) := (hB.val 0 (hd ⟨0, .data⟩ (by simp) rfl) 18 rfl).trans (hI.1 0 (hd ⟨0, .data⟩ (by simp) rfl))
     have h10 : L 10 = false := hB.wait 1 10 hL (by kernel_rfl)
     have hc := cell_of_row _ _ 3 _ _ _ hI.2.1.out
     rw [h10] at hc
     exact stepI_run (v := cur) rfl (by simp [execOp, go_sem, Act.eval, b18, hc, SelV]) (hI.step (fun _ _ h => h) rfl (hI.2.quiet (by decide) (by decide)))
    ·intro L vs a w2 hB hL hd hI
     have b1 : a.tmps[1]?.getD undef = .pointer (some ⟨w.heap.size, 0, none⟩) := hB.at 1 (by kernel_rfl)
     exact stepI_run (v := .pointer (some ⟨w.heap.size, 3, none⟩)) rfl (by simp [execOp, go_sem, Act.eval, b1]) (hI.step (fun _ _ h => h) rfl (hI.2.quiet (by decide) (by decide)))
    ·intro L vs a w2 hB hL hd hI
     have b20 : a.tmps[20]?.getD undef = .pointer (some ⟨w.heap.size, 3, none⟩) := (hB.val 2 (hd ⟨2, .data⟩ (by simp) rfl) 20 rfl).trans (hI.1 2 (hd ⟨2, .data⟩ (by simp) rfl))
     have hc := cell_of_row _ _ 3 _ _ _ hI.2.1.box
     exact stepI_run (v := .slice (some ad) ar.length ca) rfl (by simp [execOp, go_sem, Act.eval, b20, hc]) (hI.step (fun _ _ h => h) rfl (hI.2.quiet (by decide) (by decide)))
    ·intro L vs a w2 hB hL hd hI
     have b4 : a.tmps[4]?.getD undef = .int .i64 (k : Int) := hB.at 4 (by kernel_rfl)
     exact stepI_run (v := .int .i64 (k : Int)) rfl (by simp [execOp, go_sem, Act.eval, b4]) (hI.step (fun _ _ h => h) rfl (hI.2.quiet (by decide) (by decide)))
    ·intro L vs a w2 hB hL hd hI
     have b21 : a.tmps[21]?.getD undef = .slice (some ad) ar.length ca := (hB.val 3 (hd ⟨3, .data⟩ (by simp) rfl) 21 rfl).trans (hI.1 3 (hd ⟨3, .data⟩ (by simp) rfl))
     have b22 : a.tmps[22]?.getD undef = .int .i64 (k : Int) := (hB.val 4 (hd ⟨4, .data⟩ (by simp) rfl) 22 rfl).trans (hI.1 4 (hd ⟨4, .data⟩ (by simp) rfl))
     exact stepI_run (v := .pointer (some (ad.add (k * 3)))) rfl (by simp [execOp, go_sem, Act.eval, b21, b22, hk0, hk1]) (hI.step (fun _ _ h => h) rfl (hI.2.quiet (by decide) (by decide)))
    ·intro L vs a w2 hB hL hd hI
     have b23 : a.tmps[23]?.getD undef = .pointer (some (ad.add (k * 3))) := (hB.val 5 (hd ⟨5, .data⟩ (by simp) rfl) 23 rfl).trans (hI.1 5 (hd ⟨5, .data⟩ (by simp) rfl))
     obtain ⟨k0, k1, k2⟩ := KA.out _ hI.2.1.below
     exact stepI_run (v := av x) rfl (by simp [execOp, go_sem, Act.eval, b23, k0, k1, k2, av]) (hI.step (fun _ _ h => h) rfl (hI.2.quiet (by decide) (by decide)))
    ·intro L vs a w2 hB hL hd hI
     have b24 : a.tmps[24]?.getD undef = av x := (hB.val 6 (hd ⟨6, .data⟩ (by simp) rfl) 24 rfl).trans (hI.1 6 (hd ⟨6, .data⟩ (by simp) rfl))
     have hb2 : Below w2.heap.size w2 (w2.alloc (.cells #[.int .i64 x.1, .int .i64 x.2.1, .int .i64 x.2.2] 52)) := (Below.refl _ w2).alloc (Nat.le_refl _) _
     exact stepI_run (v := .slice (some ⟨w2.heap.size, 0, none⟩) 1 1) (w' := w2.alloc (.cells #[.int .i64 x.1, .int .i64 x.2.1, .int .i64 x.2.2] 52)) rfl (by simp [execOp, go_sem, Act.eval, b24, av]) (hI.step (fun j u h => OwPh.stay (Nst.below hb2) j u h) ⟨w2.heap.size, rfl, hI.2.2.2, heap_alloc_new w2 _⟩ ((hI.2.ext hb2).quiet (by decide) (by decide)))
    ·intro L vs a w2 hB hL hd hI
     have b19 : a.tmps[19]?.getD undef = cur := (hB.val 1 (hd ⟨1, .data⟩ (by simp) rfl) 19 rfl).trans (hI.1 1 (hd ⟨1, .data⟩ (by simp) rfl))
     have hn := hI.1 7 (hd ⟨7, .data⟩ (by simp) rfl)
     obtain ⟨g, hg1, hg2, hg3⟩ := hn
     have b25 : a.tmps[25]?.getD undef = .slice (some ⟨g, 0, none⟩) 1 1 := (hB.val 7 (hd ⟨7, .data⟩ (by simp) rfl) 25 rfl).trans hg1
     have h10 : L 10 = false := hB.wait 8 10 hL (by kernel_rfl)
     refine stepI_on rfl (wp_append_lies w2 (.tmp 19) (.tmp 25) _ rfl (w.heap.size + 3) 52 i0 _ 3 24 hu29 hi hz0 hz1 hz2 rfl (by omega) cur l.length (l.flatMap acells) (by simp [Act.eval, b19]) (hI.2.row hL) ⟨g, 0, none⟩ 1 1 [.int .i64 x.1, .int .i64 x.2.1, .int .i64 x.2.2] (by simp [Act.eval, b25]) rfl (three_cell hg3) (by simp [Value.oneCell']) (by omega) (by unfold maxLen; omega) (by omega) hI.2.1.size w2.heap.size rfl ?_)
     intro g2 cap w3 hown hgr hg2' hlt'
     exact ⟨_, rfl, hI.step (fun j u h => OwPh.stay ⟨hgr.size, fun q h1 h2 => hgr.block q h2 fun e => by have := (World.ownsRow.lt Hr.out q e.symm).2; omega⟩ j u h) trivial (hI.2.grow hL h10 hown hgr)⟩
    ·intro L vs a w2 hB hL hd hI
     have b3 : a.tmps[3]?.getD undef = .pointer (some ⟨w.heap.size + 1 + 1, 0, none⟩) := hB.at 3 (by kernel_rfl)
     exact stepI_run (v := .pointer (some ⟨w.heap.size + 1 + 1, 3, none⟩)) rfl (by simp [execOp, go_sem, Act.eval, b3]) (hI.step (fun _ _ h => h) rfl (hI.2.quiet (by decide) (by decide)))
    ·intro L vs a w2 hB hL hd hI
     have l8 := hd ⟨8, .data⟩ (by simp) rfl
     have l9 := hd ⟨9, .data⟩ (by simp) rfl
     have b26 : a.tmps[26]?.getD undef = vs 8 := hB.val 8 l8 26 rfl
     have b27 : a.tmps[27]?.getD undef = .pointer (some ⟨w.heap.size + 1 + 1, 3, none⟩) := (hB.val 9 l9 27 rfl).trans (hI.1 9 l9)
     have hc := cell_of_row _ _ 3 _ _ _ hI.2.1.out
     have hf := frozen_of hI.2.1.out 3
     have hr8 := hI.2.2.1
     rw [l8] at hr8
     obtain ⟨A8, c8, e8⟩ := own_shapeG hr8
     have e8 : vs 8 = .slice A8 (SelA true l x).length c8 := e8
     refine stepI_skip (w' := w2.setCell ⟨w.heap.size + 1 + 1, 3, none⟩ (vs 8)) rfl ?_ (hI.step (fun j u h => OwPh.stay ⟨by simp [World.setCell], fun q h1 h2 => Below.heap_setCell w2 ⟨w.heap.size + 1 + 1, 3, none⟩ (vs 8) q (fun e => by have e : q = w.heap.size + 1 + 1 := e; have := Hm.out.size; omega)⟩ j u h) trivial (hI.2.store _))
     rw [e8] at b26 ⊢
     simp [execOp, go_sem, Act.eval, b26, b27, hc, hf]
   ·intro L vs w2 hall hI
    obtain ⟨hm, hr⟩ := hI.2.all (fun i hi => hall i hi)
    have Hm2 := Lib.hid hm; have Hr2 := Lib.hid hr
    clear hm hr hI hall
    simp only [putAll, Act.put, List.setIfInBounds_toArray, List.set_cons_zero, List.set_cons_succ, Nat.zero_add, Nat.reduceAdd]
    generalize vs 8 = cur' at *
    go_wp2
    go_roundw
    case rel => exact ⟨k + 1, cur', by omega, by go_num, by rw [Htk.out]; exact ⟨Hm2.out.box, Hm2.out.res, Hm2.out.out, Hm2.out.below, Hm2.out.size⟩, by rw [Htk.out]; exact Hr2.out⟩
    case measure => simp [intOf]; omega
  ·obtain rfl : k = ar.length := by omega
   have Hrr : Hid (OwR w wr cur ar) := Lib.hid (by have := Hr.out; rwa [List.take_length] at this)
   obtain ⟨A9, c9, rfl⟩ := own_shapeG Hrr.out
   have cc0 := cell_of_row _ _ 0 _ _ _ Hm.out.out
   have cc1 := cell_of_row _ _ 1 _ _ _ Hm.out.out
   have cc2 := cell_of_row _ _ 2 _ _ _ Hm.out.out
   have cc3 := cell_of_row _ _ 3 _ _ _ Hm.out.out
   have d0 := cell_of_row _ _ 0 _ _ _ Hm.out.res
   have d1 := cell_of_row _ _ 1 _ _ _ Hm.out.res
   have d2 := cell_of_row _ _ 2 _ _ _ Hm.out.res
   have d3 := cell_of_row _ _ 3 _ _ _ Hm.out.res
   have f0 := frozen_of Hm.out.res 0
   have f1 := frozen_of Hm.out.res 1
   have f2 := frozen_of Hm.out.res 2
   have f3 := frozen_of Hm.out.res 3
   go_wp2_with fail
   refine bodyPost_ret (v := .agg #[.int .i64 S, .slice A1 n1 c1, .slice A2 n2 c2, .slice A9 ar.length c9]) (results_cell_row Tryd.results8 _ _ (w.heap.size + 1) 32 _ (0, 0) _ rfl (heap_set_4 Hm.out.res _ _ _ _) Tryd.underlying32 rfl (by kernel_rfl)) rfl ?_
   refine ⟨_, rfl, ?_, (((Hm.out.below.setCell (p := ⟨w.heap.size + 1, 0, none⟩) (by simp) _).setCell (p := ⟨w.heap.size + 1, 1, none⟩) (by simp) _).setCell (p := ⟨w.heap.size + 1, 2, none⟩) (by simp) _).setCell (p := ⟨w.heap.size + 1, 3, none⟩) (by simp) _⟩
   exact acs_own (ownsRow_setCell_below (ownsRow_setCell_below (ownsRow_setCell_below (ownsRow_setCell_below Hrr.out (by simp) _) (by simp) _) (by simp) _) (by simp) _)
end Go.Proofs.YtockgbilbnheaaaDoor
