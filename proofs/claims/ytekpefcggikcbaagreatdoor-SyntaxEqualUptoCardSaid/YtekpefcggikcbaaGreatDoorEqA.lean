/- Layer 10: sameItems at items with blocks: it answers whether the items are the same. -/
import Derived.Test.YtekpefcggikcbaaGreatDoorMEqG
import Derived.Test.YtekpefcggikcbaaGreatDoorMRegInv
namespace Go.Proofs.YtekpefcggikcbaaGreatDoor
open Go.RowKit

/-- The pairs of lists of items St lie one behind the other as the values us. -/
def flP (p : ILP) : List D := [dB p.1, dB p.2]
def LP (w : World) (S : Nat → Prop) (us : List Value) (St : List ILP) : Prop := LiesL w S us (St.flatMap flP)
theorem flP_len (p : ILP) : (flP p).length = 2 := rfl
def KeyOf (w : World) (S : Nat → Prop) (k : PK) (p : ILP) : Prop := ∃ n c c', k.2.2 = ((n : Nat) : Int) ∧ Lies w S (.slice (some k.1) n c) (dB p.1) ∧ Lies w S (.slice (some k.2.1) n c') (dB p.2)
theorem key_uniq {w : World} {S : Nat → Prop} {k : PK} {p q : ILP} (h : KeyOf w S k p) (g : KeyOf w S k q) : p = q := by
 obtain ⟨n, c, c', e, h1, h2⟩ := h
 obtain ⟨n', d, d', e', g1, g2⟩ := g
 have : n = n' := by rw [e] at e'; exact Int.ofNat.inj e'
 subst this
 obtain ⟨p1, p2⟩ := p
 obtain ⟨q1, q2⟩ := q
 obtain rfl := items_uniq _ p1 q1 _ _ _ _ (Nat.lt_succ_self _) h1 g1
 obtain rfl := items_uniq _ p2 q2 _ _ _ _ (Nat.lt_succ_self _) h2 g2
 rfl
/-- The keys are those of what is met. -/
def KM (w : World) (S : Nat → Prop) (ks : List PK) (met : List ILP) : Prop := (∀ k ∈ ks, ∃ p ∈ met, KeyOf w S k p) ∧ ∀ k ∈ ks, PlK w k
theorem KM.hit {w : World} {S : Nat → Prop} {ks : List PK} {met : List ILP} (h : KM w S ks met) {k : PK} {p : ILP} (hk : k ∈ ks) (hp : KeyOf w S k p) : p ∈ met := by
 obtain ⟨q, hq, hkq⟩ := h.1 k hk
 rw [key_uniq hp hkq]
 exact hq
theorem KM.add {w : World} {S : Nat → Prop} {ks : List PK} {met : List ILP} (h : KM w S ks met) {k : PK} {p : ILP} (hp : KeyOf w S k p) (hpl : PlK w k) : KM w S (ks ++ [k]) (p :: met) := by
 refine ⟨fun l hl => ?_, fun l hl => ?_⟩
 ·rcases List.mem_append.1 hl with hl | hl
  ·obtain ⟨q, hq, hkq⟩ := h.1 l hl
   exact ⟨q, List.mem_cons_of_mem _ hq, hkq⟩
  ·simp only [List.mem_singleton] at hl
   subst hl
   exact ⟨p, by simp, hp⟩
 ·rcases List.mem_append.1 hl with hl | hl
  ·exact h.2 l hl
  ·simp only [List.mem_singleton] at hl
   subst hl
   exact hpl
mutual
/-- No list of names is too long. -/
def tdIt : It → Prop
 | .mk _ _ to _ _ _ bl => to.length ≤ 1000000000 ∧ tdBl bl
def tdIs : List It → Prop
 | [] => True
 | x :: r => tdIt x ∧ tdIs r
def tdBl : List (List It) → Prop
 | [] => True
 | b :: r => tdIs b ∧ tdBl r
end
theorem tdBl_mem {b : List It} : ∀ {l : List (List It)}, tdBl l → b ∈ l → tdIs b
 | c :: l, h, hm => by
  simp only [tdBl] at h
  rcases List.mem_cons.1 hm with rfl | hm
  ·exact h.1
  ·exact tdBl_mem h.2 hm
theorem tdIs_mem {x : It} : ∀ {l : List It}, tdIs l → x ∈ l → tdIt x
 | c :: l, h, hm => by
  simp only [tdIs] at h
  rcases List.mem_cons.1 hm with rfl | hm
  ·exact h.1
  ·exact tdIs_mem h.2 hm
theorem tdIt_to {x : It} (h : tdIt x) : ToOK x := by
 obtain ⟨k, fr, to, nm, al, tk, bl⟩ := x
 simp only [tdIt] at h
 exact h.1
theorem td_kids {p : ILP} (h : tdIs p.1 ∧ tdIs p.2) : ∀ q ∈ kidsOf p, tdIs q.1 ∧ tdIs q.2 := by
 have key : ∀ {X : List It}, tdIs X → ∀ b ∈ X.flatMap blksOf, tdIs b := fun {X} hX b hb => by
  obtain ⟨x, hx, hb⟩ := List.mem_flatMap.1 hb
  have := tdIs_mem hX hx
  obtain ⟨k, fr, to, nm, al, tk, bl⟩ := x
  simp only [tdIt] at this
  exact tdBl_mem this.2 hb
 intro q hq
 have := List.of_mem_zip (show (q.1, q.2) ∈ _ from hq)
 exact ⟨key h.1 _ this.1, key h.2 _ this.2⟩
/-- The state of the comparison between the rounds. -/
structure SiS (w : World) (S : Nat → Prop) (p0 : ILP) (St met : List ILP) (us : List Value) (ks : List PK) (v : Value) (wr : World) : Prop where
 row : wr.ownsRow (w.heap.size + 1) 222 2 v St.length us
 lie : LP w S us St
 mp : MetM wr w.heap.size ks
 km : KM w S ks met
 inv : EqInv p0 St met
 low : Below w.heap.size w wr
 td : ∀ p ∈ St, tdIs p.1 ∧ tdIs p.2
theorem row_pop {w : World} {B e z n : Nat} {v : Value} {us vs : List Value} (h : w.ownsRow B e z v (n + 1) (us ++ vs)) (hu : us.length = n * z) :
  ∃ g cap, v = .slice (some ⟨g, 0, none⟩) (n + 1) cap ∧ B ≤ g ∧ g < w.heap.size ∧ n + 1 ≤ cap ∧ w.ownsRow B e z (.slice (some ⟨g, 0, none⟩) n cap) n us ∧ (∀ (i : Nat) u, vs[i]? = some u → w.cell? ⟨g, n * z + i, none⟩ = some u) := by
 have hcl := @World.ownsRow.cells _ _ _ _ _ _ _ h
 rcases h.2 with ⟨_, h0⟩ | ⟨g, cap, cur, rfl, hb, hh, hc, hm, hs, ht⟩
 ·omega
 ·refine ⟨g, cap, rfl, hb, lt_of_some hh, hc, ⟨hu, .inr ⟨g, cap, cur, rfl, hb, hh, by omega, hm, hs, ?_⟩⟩, fun i u hi => ?_⟩
  ·have h2 := congrArg (List.take (n * z)) ht
   rw [List.take_take, Nat.min_eq_left (Nat.mul_le_mul_right _ (Nat.le_succ n)), ← hu, List.take_left] at h2
   rw [← hu]; exact h2
  ·have h3 := hcl (g := g) rfl (n * z + i) u (by rw [List.getElem?_append_right (by omega), hu, Nat.add_sub_cancel_left]; exact hi)
   rw [show (⟨g, 0, none⟩ : Addr).add (n * z + i) = ⟨g, n * z + i, none⟩ by unfold Addr.add; split <;> simp_all] at h3
   exact h3
theorem LiesL.split {w : World} {S : Nat → Prop} {us : List Value} {l m : List D} (h : LiesL w S us (l ++ m)) : ∃ us1 us2, us = us1 ++ us2 ∧ LiesL w S us1 l ∧ LiesL w S us2 m := by
 have hl := h.1
 rw [List.length_append] at hl
 refine ⟨us.take l.length, us.drop l.length, (List.take_append_drop _ _).symm, ⟨by simp; omega, fun i u d hu hd => ?_⟩, ⟨by simp; omega, fun i u d hu hd => ?_⟩⟩
 ·have hi := (List.getElem?_eq_some_iff.1 hd).1
  rw [List.getElem?_take_of_lt hi] at hu
  exact h.2 i u d hu (by rw [List.getElem?_append_left hi]; exact hd)
 ·rw [List.getElem?_drop] at hu
  exact h.2 (l.length + i) u d hu (by rw [List.getElem?_append_right (by omega), Nat.add_sub_cancel_left]; exact hd)
theorem LP_pop {w : World} {S : Nat → Prop} {us : List Value} {St : List ILP} {p : ILP} (h : LP w S us (St ++ [p])) : ∃ us1 va vb, us = us1 ++ [va, vb] ∧ us1.length = St.length * 2 ∧ LP w S us1 St ∧ Lies w S va (dB p.1) ∧ Lies w S vb (dB p.2) := by
 unfold LP at h
 rw [List.flatMap_append] at h
 obtain ⟨us1, us2, rfl, h1, h2⟩ := h.split
 have h3 : us2.length = 2 := h2.1
 match us2, h3, h2 with
 | [va, vb], _, h2 =>
  refine ⟨us1, va, vb, rfl, ?_, h1, h2.2 0 va _ rfl rfl, h2.2 1 vb _ rfl rfl⟩
  rw [h1.1, flat_len flP_len]
theorem dB_len {w : World} {S : Nat → Prop} {v : Value} {X : List It} (h : Lies w S v (dB X)) : ∃ A c, v = .slice A X.length c := by
 obtain ⟨A, n, c, rfl, hm⟩ := Lies.slc (show Lies w S v (.s 7 (dIs X)) from h)
 rw [dIs_map, flat_len dIt_len] at hm
 obtain rfl : n = X.length := by omega
 exact ⟨A, c, rfl⟩
structure InR (w : World) (S : Nat → Prop) (ks : List PK) (St : List ILP) (us : List Value) (v : Value) (wr : World) : Prop where
 row : wr.ownsRow (w.heap.size + 1) 222 2 v St.length us
 lie : LP w S us St
 mp : MetM wr w.heap.size ks
 low : Below w.heap.size w wr
theorem own_same {w w' : World} {B e z n : Nat} {v : Value} {us : List Value} (h : w.ownsRow B e z v n us) (hk : ∀ a, a < w.heap.size → B ≤ a → w'.heap[a]? = w.heap[a]?) : w'.ownsRow B e z v n us := own_keepB h hk
theorem blks_at {X Y : List It} {i : Nat} {x y : It} (h : eqL hdq X Y = true) (hx : X[i]? = some x) (hy : Y[i]? = some y) : hdq x y = true := by
 induction X generalizing Y i with
 | nil => simp at hx
 | cons a X ih =>
  cases Y with
  | nil => simp at hy
  | cons b Y =>
   simp only [eqL, Bool.and_eq_true] at h
   cases i with
   | zero => simp at hx hy; subst hx; subst hy; exact h.1
   | succ i => exact ih h.2 (by simpa using hx) (by simpa using hy)
theorem flat_blks_len {X Y : List It} (h : eqL hdq X Y = true) (i : Nat) : ((X.take i).flatMap blksOf).length = ((Y.take i).flatMap blksOf).length := by
 induction X generalizing Y i with
 | nil => cases Y with
  | nil => simp
  | cons b Y => simp [eqL] at h
 | cons a X ih =>
  cases Y with
  | nil => simp [eqL] at h
  | cons b Y =>
   simp only [eqL, Bool.and_eq_true] at h
   cases i with
   | zero => simp
   | succ i => simp only [List.take_succ_cons, List.flatMap_cons, List.length_append, ih h.2 i, hdq_len h.1]
theorem kids_succ {X Y : List It} {i : Nat} {x y : It} (h : eqL hdq X Y = true) (hx : X[i]? = some x) (hy : Y[i]? = some y) : kidsOf (X.take (i + 1), Y.take (i + 1)) = kidsOf (X.take i, Y.take i) ++ (blksOf x).zip (blksOf y) := by
 unfold kidsOf
 simp only [List.take_add_one, hx, hy, Option.toList_some, List.flatMap_append, List.flatMap_cons, List.flatMap_nil, List.append_nil]
 exact List.zip_append (flat_blks_len h i)
theorem eqL_length {X Y : List It} (h : eqL hdq X Y = true) : X.length = Y.length := Decidable.byContradiction fun hl => by rw [eqL_len hl] at h; cases h
theorem mu_len : ∀ l : List ILP, l.length ≤ muS l
 | [] => by simp
 | p :: r => by have := mu_len r; simp only [List.length_cons, muS]; omega
theorem nBl_len : ∀ l : List (List It), l.length ≤ nBl l
 | [] => by simp
 | b :: r => by have := nBl_len r; simp only [List.length_cons, nBl]; omega
theorem nopeT' {α : Prop} (h : false = true) : α := by cases h
/-- What holds between the operations of 'left = append(left, [2][]Item{..})'. -/
structure SmI (vals : Nat → Value) (w0 : World) (m : Nat) (ks : List PK) (B e n : Nat) (v : Value) (us : List Value) (c0 c1 : Value) (L : Nat → Bool) (vs : Nat → Value) (w : World) : Prop where
 rd : ∀ i, i < 18 → L i = true → vs i = vals i
 low : Below w0.heap.size w0 w
 mp : MetM w m ks
 row : L 19 = false → w.ownsRow B e 2 v n us
 blk : L 18 = true → L 19 = false → ∃ b, vs 18 = .slice (some ⟨b, 0, none⟩) 1 1 ∧ w.heap[b]? = some (.cells #[c0, c1] e (0, 0)) ∧ B ≤ b ∧ v.ownBlock ≠ some b
 don : L 19 = true → ∃ h cap, vs 19 = .slice (some ⟨h, 0, none⟩) (n + 1) cap ∧ w.ownsRow B e 2 (vs 19) (n + 1) (us ++ [c0, c1])
 asg : L 20 = true → vs 20 = vs 19
 sz : B ≤ w.heap.size
section
variable {vals : Nat → Value} {w0 w : World} {m B e n : Nat} {ks : List PK} {v c0 c1 : Value} {us : List Value} {L : Nat → Bool} {vs : Nat → Value}
theorem SmI.start (hl : Below w0.heap.size w0 w) (hm : MetM w m ks) (hr : w.ownsRow B e 2 v n us) (hz : B ≤ w.heap.size) : SmI vals w0 m ks B e n v us c0 c1 (fun _ => false) vs w.drew :=
 ⟨fun _ _ h => nopeT' h, hl.drew, hm, fun _ => hr, fun h => nopeT' h, fun h => nopeT' h, fun h => nopeT' h, hz⟩
theorem SmI.rdT (hI : SmI vals w0 m ks B e n v us c0 c1 L vs w) (k : Nat) (hk : k < 18) : SmI vals w0 m ks B e n v us c0 c1 (updB L k) (updV vs k (vals k)) w := by
 refine ⟨fun i hi h => ?_, hI.low, hI.mp, fun h => hI.row ?_, fun h1 h2 => ?_, fun h => ?_, fun h => ?_, hI.sz⟩
 ·by_cases hik : i = k
  ·subst hik; rw [updV_self]
  ·rw [updV_ne _ _ hik]; exact hI.rd i hi (by rw [← updB_ne L hik]; exact h)
 ·rwa [updB_ne L (by omega)] at h
 ·rw [updB_ne L (by omega)] at h1 h2
  rw [updV_ne _ _ (by omega)]
  exact hI.blk h1 h2
 ·rw [updB_ne L (by omega)] at h
  rw [updV_ne _ _ (by omega)]
  exact hI.don h
 ·rw [updB_ne L (by omega)] at h
  rw [updV_ne _ _ (by omega), updV_ne _ _ (by omega)]
  exact hI.asg h
theorem SmI.lit (hI : SmI vals w0 m ks B e n v us c0 c1 L vs w) (h19 : L 19 = false) (h20 : L 20 = false) (hw : w0.heap.size ≤ B) :
  SmI vals w0 m ks B e n v us c0 c1 (updB L 18) (updV vs 18 (.slice (some ⟨w.heap.size, 0, none⟩) 1 1)) (w.alloc (.cells #[c0, c1] e)) := by
 have hob : v.ownBlock ≠ some w.heap.size := fun eq => by
  rcases (hI.row h19).2 with ⟨rfl, _⟩ | ⟨g, cap, cur, rfl, _, hh, _⟩
  ·cases eq
  ·simp only [Value.ownBlock, Option.some.injEq] at eq
   have := lt_of_some hh
   omega
 have hm : m < w.heap.size := by
  obtain ⟨es, c, h, -⟩ := hI.mp
  exact lt_of_some h
 refine ⟨fun i hi h => ?_, hI.low.alloc (Nat.le_trans hw hI.sz) _, hI.mp.keep (Below.heap_alloc w _ _ hm), fun _ => (hI.row h19).alloc _, fun _ _ => ⟨w.heap.size, by rw [updV_self], heap_alloc_new w _, hI.sz, hob⟩, fun h => ?_, fun h => ?_, by simp; have := hI.sz; omega⟩
 ·rw [updB_ne L (by omega)] at h
  rw [updV_ne _ _ (by omega)]
  exact hI.rd i hi h
 ·rw [updB_ne L (by omega), h19] at h
  cases h
 ·rw [updB_ne L (by omega), h20] at h
  cases h
theorem SmI.fin (hI : SmI vals w0 m ks B e n v us c0 c1 L vs w) (h19 : L 19 = true) : SmI vals w0 m ks B e n v us c0 c1 (updB L 20) (updV vs 20 (vs 19)) w := by
 refine ⟨fun i hi h => ?_, hI.low, hI.mp, fun h => ?_, fun h1 h2 => ?_, fun h => ?_, fun h => ?_, hI.sz⟩
 ·rw [updB_ne L (by omega)] at h
  rw [updV_ne _ _ (by omega)]
  exact hI.rd i hi h
 ·rw [updB_ne L (by omega), h19] at h
  cases h
 ·rw [updB_ne L (by omega), h19] at h2
  cases h2
 ·rw [updV_ne _ _ (by omega)]
  exact hI.don h19
 ·rw [updV_self, updV_ne _ _ (by omega)]
theorem stepI_app {P : Program} {ops : Array Oper} {Q : Exit → Act → World → Prop} {o : Oper} {a : Act} {s q : Nat} {t : TypeId} {zv : Value} {by_ : Nat} (hI : SmI vals w0 m ks B e n v us c0 c1 L vs w)
  (hu : P.underlying t = some (.slice e)) (hinfo : (P.info? e).map (fun i => (i.zero, i.size, i.bytes)) = some (some zv, 2, by_)) (hzs : zv.cells.size = 2) (hg : o.guard = none)
  (ho : o.op = .call { callee := .builtin .append, args := #[.tmp s, .tmp q], argTypes := #[t, t] }) (hs : a.tmps[s]?.getD undef = v) (hq : a.tmps[q]?.getD undef = vs 18)
  (h18 : L 18 = true) (h19 : L 19 = false) (h20 : L 20 = false) (hby : (n + 1) * by_ ≤ 140737488355328) (hb0 : 0 < by_) (hwB : w0.heap.size ≤ B) (hmB : m < B) (o0 : c0.oneCell' = true) (o1 : c1.oneCell' = true) :
  StepI P ops Q (SmI vals w0 m ks B e n v us c0 c1) L vs 19 o a w := by
 obtain ⟨i0, hi, hy0, hy1, hy2⟩ := info_parts hinfo
 have ho1 := hI.row h19
 obtain ⟨b, hv4, hb, hBb, hub⟩ := hI.blk h18 h19
 have hn1 : n + 1 ≤ 140737488355328 := Nat.le_trans (Nat.le_mul_of_pos_right _ hb0) hby
 refine stepI_on (by simp [Region.wanted, hg]) (wp_append_lies w (.tmp s) (.tmp q) t ho B e i0 _ 2 by_ hu hi hy0 hy1 hy2 hzs (by omega) v n us (by simp [Act.eval, hs]) ho1 ⟨b, 0, none⟩ 1 1 [c0, c1] (by simp [Act.eval, hq, hv4]) (by simp) ?_ (by simp [o0, o1]) (by omega) (by unfold maxLen; omega) hby hI.sz w.heap.size rfl ?_)
 ·intro j u hj
  have e' : (⟨b, 0, none⟩ : Addr).add j = ⟨b, j, none⟩ := by unfold Addr.add; split <;> simp_all
  rw [e', cell_of_row _ b j _ _ _ hb, ← Array.getElem?_toList]
  exact hj
 ·intro g2 cap w3 hown hgr hfr hlt
  have hB := hI.sz
  have hbel : Below B w w3 := ⟨hgr.os, hgr.tape, hgr.output, hgr.size, fun k hk => hgr.block k (by omega) fun eq => by
   rcases ho1.2 with ⟨rfl, _⟩ | ⟨g', cap, cur, rfl, hb', hh, _⟩
   ·cases eq
   ·simp only [Value.ownBlock, Option.some.injEq] at eq; omega⟩
  refine ⟨_, rfl, fun i hi h => ?_, hI.low.trans (hbel.mono hwB), hI.mp.keep (hbel.block _ hmB), fun h => ?_, fun _ h => ?_, fun _ => ⟨g2, cap, ?_, ?_⟩, fun h => ?_, Nat.le_trans hI.sz hgr.size⟩
  ·rw [updB_ne L (by omega)] at h
   rw [updV_ne _ _ (by omega)]
   exact hI.rd i hi h
  ·rw [updB_self] at h; cases h
  ·rw [updB_self] at h; cases h
  ·rw [updV_self]
  ·rw [updV_self]; exact hown
  ·rw [updB_ne L (by omega), h20] at h
   cases h
end
theorem nIs_take : ∀ (X : List It) (i : Nat), nIs (X.take i) ≤ nIs X
 | [], i => by simp
 | x :: X, 0 => by simp [nIs]
 | x :: X, i + 1 => by have := nIs_take X i; simp only [List.take_succ_cons, nIs]; omega
theorem info_Pair : (Tryz.prog.info? 222).map (fun i => (i.zero, i.size, i.bytes)) = some (some (.agg #[.slice none 0 0, .slice none 0 0]), 2, 48) := by kernel_rfl
section
variable {w w' : World} {S : Nat → Prop}
theorem row_nil {w : World} {B e z : Nat} {v : Value} {us : List Value} (h : w.ownsRow B e z v 0 us) : ∃ A c, v = .slice A 0 c := by
 rcases h.2 with ⟨rfl, _⟩ | ⟨g, cap, cur, rfl, _⟩
 ·exact ⟨_, _, rfl⟩
 ·exact ⟨_, _, rfl⟩
set_option maxRecDepth 20000 in
set_option maxHeartbeats 8000000 in
theorem sameItems_any (X Y : List It) (v u : Value) (L : Lies w S v (dB X)) (M : Lies w S u (dB Y)) (tX : tdIs X) (tY : tdIs Y) (hn : nIs X ≤ 1000000000) :
  Calls Tryz.prog 104 #[v, u] w (fun e w' => ∃ b : Bool, (b = true ↔ X = Y) ∧ Tells w (.bool b) e w') := by
 obtain ⟨A, n, c, rfl, hm⟩ := Lies.slc (show Lies w S v (.s 7 (dIs X)) from L)
 obtain ⟨A2, n2, c2, rfl, hm2⟩ := Lies.slc (show Lies w S u (.s 7 (dIs Y)) from M)
 clear hm hm2
 have hmk := make_map w
 obtain ⟨W0, hW0⟩ : ∃ W, (w.alloc (.map #[] 0)).alloc (.cells #[.slice A n c, .slice A2 n2 c2] 222) = W := ⟨_, rfl⟩
 have B0 := Lib.hid (show Below w.heap.size w W0 by rw [← hW0]; exact ((Below.refl _ w).alloc (Nat.le_refl _) _).alloc (by simp) _)
 have hmp : W0.heap[w.heap.size]? = some (.map #[] 0) := by rw [← hW0]; exact (Below.heap_alloc _ _ _ (by simp)).trans (World.alloc_heap_new w _)
 have X2 : Bx W0 (w.heap.size + 1) 222 #[.slice A n c, .slice A2 n2 c2] := by rw [← hW0]; exact Bx.new2 (size_alloc _ _)
 have HS0 := Lib.hid (show SiS w S (X, Y) [(X, Y)] [] [.slice A n c, .slice A2 n2 c2] [] (.slice (some ⟨w.heap.size + 1, 0, none⟩) 1 1) W0 from
  ⟨⟨rfl, .inr ⟨w.heap.size + 1, 1, _, rfl, Nat.le_refl _, X2, Nat.le_refl _, by unfold maxLen; omega, rfl, rfl⟩⟩, LiesL.cons L (LiesL.cons M (LiesL.nil _ _)), MetM.nil hmp, ⟨by simp, by simp⟩, EqInv.start _, B0.out, by simp; exact ⟨tX, tY⟩⟩)
 have HW0 := Lib.hid hW0
 clear hW0 X2 hmp tX tY
 have HL := Lib.hid L
 have HM := Lib.hid M
 clear L M B0
 go_enter Tryz.func104, Tryz.ntmps104
 go_wp2_with fail
 rw [HW0.out]
 clear hmk
 have HN : nIs X + 1 ≤ 1000000001 := by omega
 go_loopg [6] (nIs X + 1) (fun gk vi wr => ∃ St met us ks, Hid (SiS w S (X, Y) St met us ks vi wr) ∧ muS St ≤ gk ∧ gk ≤ 1000000001)
 case atStart => exact ⟨_, _, _, _, HS0, by simp [muS], HN⟩
 case round =>
  obtain ⟨St, met, us, ks, HS, hmu, hgk⟩ := hrel
  clear HS0
  rcases List.eq_nil_or_concat St with rfl | ⟨St, p, rfl⟩
  ·obtain ⟨A5, c5, rfl⟩ := row_nil HS.out.row
   go_wp2_with fail
   go_ret
   exact ⟨true, ⟨fun _ => HS.out.inv.stop, fun _ => rfl⟩, rfl, HS.out.low⟩
  ·rw [List.concat_eq_append] at HS hmu
   obtain ⟨us1, va, vb, rfl, hul, LP1, La, Lb⟩ := LP_pop HS.out.lie
   obtain ⟨x, y⟩ := p
   obtain ⟨A3, c3, rfl⟩ := dB_len La
   obtain ⟨A4, c4, rfl⟩ := dB_len Lb
   have hrow := HS.out.row
   rw [List.length_append, List.length_singleton] at hrow
   obtain ⟨g, cap, rfl, hBg, hgs, hcap, hrow1, hcl⟩ := row_pop hrow hul
   have c0 : wr.cell? ⟨g, St.length * 2, none⟩ = some (.slice A3 x.length c3) := hcl 0 _ rfl
   have c1 : wr.cell? ⟨g, St.length * 2 + 1, none⟩ = some (.slice A4 y.length c4) := hcl 1 _ rfl
   have HR1 := Lib.hid hrow1
   clear hcl hrow hrow1
   obtain ⟨ns, hns⟩ : ∃ ns, St.length = ns := ⟨_, rfl⟩
   rw [hns] at c0 c1 hul HR1 hcap
   have hnsl : ns + muS [(x, y)] ≤ gk := by
    rw [muS_append] at hmu
    have := mu_len St
    omega
   have hm2 : muS St + nIs x + 1 ≤ gk := by
    rw [muS_append] at hmu
    simp only [muS] at hmu
    omega
   clear hmu
   have hns1 : ns ≤ 1000000001 := by omega
   have e1 : wrap64 (((ns + 1 : Nat) : Int) - 1) = (ns : Int) := by unfold wrap64; omega
   have HK := Lib.hid (show ∀ k, k < w.heap.size → wr.heap[k]? = w.heap[k]? from fun k hk => HS.out.low.block k hk)
   have HMP := Lib.hid HS.out.mp
   have HKM := Lib.hid HS.out.km
   have HIV := Lib.hid HS.out.inv
   have HLO := Lib.hid HS.out.low
   have HTD := Lib.hid HS.out.td
   clear HS
   have HLa := Lib.hid La
   have HLb := Lib.hid Lb
   have HLP := Lib.hid LP1
   have HUL := Lib.hid hul
   have HNS := Lib.hid hns
   have HBg := Lib.hid hBg
   have HM2 := Lib.hid hm2
   have HNL := Lib.hid hnsl
   have hcp : ns ≤ cap := by omega
   clear La Lb LP1 hul hBg hm2 hnsl hgs hcap
   by_cases hlen : x.length = y.length
   ·rw [← hlen] at c1 HLb
    have HLN := Lib.hid hlen
    clear hlen
    by_cases hz : x.length = 0
    ·have hz2 : ((x.length : Int) == 0) = true := by rw [beq_iff_eq]; omega
     have HX0 := Lib.hid (List.eq_nil_of_length_eq_zero hz)
     have HY0 := Lib.hid (List.eq_nil_of_length_eq_zero (HLN.out.symm.trans hz))
     clear hz
     go_wp2_with fail
     go_region
     go_wp2_with fail
     go_region
     go_wp2_with fail
     go_roundg (gk - 1)
     case rel => exact ⟨St, met, us1, ks, Lib.hid ⟨by rw [HNS.out]; exact HR1.out, HLP.out, HMP.out, HKM.out, HIV.out.drop (.inr ⟨HX0.out, HY0.out⟩), HLO.out.drew.drew, fun p hp => HTD.out p (List.mem_append_left _ hp)⟩, by have := HM2.out; omega, by omega⟩
     case measure => have := HM2.out; omega
    ·have hz2 : ((x.length : Int) == 0) = false := by rw [beq_eq_false_iff_ne]; omega
     have hpos : (0 : Int) < (x.length : Int) := by omega
     have hx0 : dIs x ≠ [] := by intro e0; have := congrArg List.length (show (x.flatMap dIt) = [] from by rw [← dIs_map]; exact e0); rw [flat_len dIt_len, List.length_nil] at this; omega
     obtain ⟨bb, o, n', c', he, hn', hSb, hbl, hcell⟩ := sl_cell (z := 7) HLa.out hx0
     have hy0 : dIs y ≠ [] := by intro e0; have := congrArg List.length (show (y.flatMap dIt) = [] from by rw [← dIs_map]; exact e0); rw [flat_len dIt_len, List.length_nil] at this; have := HLN.out; omega
     obtain ⟨bb2, o2, n2', c2', he2, hn2', hSb2, hbl2, hcell2⟩ := sl_cell (z := 7) HLb.out hy0
     simp only [Value.slice.injEq] at he he2
     obtain ⟨rfl, -, rfl⟩ := he
     obtain ⟨rfl, -, rfl⟩ := he2
     have HKY := Lib.hid (show KeyOf w S (⟨bb, o, none⟩, ⟨bb2, o2, none⟩, (x.length : Int)) (x, y) from ⟨x.length, _, _, rfl, HLa.out, HLb.out⟩)
     have HPK := Lib.hid (show PlK w (⟨bb, o, none⟩, ⟨bb2, o2, none⟩, (x.length : Int)) from ⟨Lies.plain HLa.out hx0, Lies.plain HLb.out hy0⟩)
     clear hx0 hy0
     have up : ∀ {k : PK}, PlK w k → PlK wr k := fun h => ⟨h.1.keep (HK.out _ h.1.lt), h.2.keep (HK.out _ h.2.lt)⟩
     have hlk := lookup_met (w := wr.drew.drew) HMP.out (fun l hl => up (HKM.out.2 l hl)) (up HPK.out)
     by_cases hin : ((⟨bb, o, none⟩, ⟨bb2, o2, none⟩, (x.length : Int)) : PK) ∈ ks
     ·rw [decide_eq_true hin] at hlk
      unfold pairV at hlk
      have HIN := Lib.hid hin
      clear hin hz hcell hcell2 up
      go_wp2_with fail
      go_region
      go_wp2_with fail
      go_region
      go_wp2_with fail
      go_roundg (gk - 1)
      case rel => exact ⟨St, met, us1, ks, Lib.hid ⟨by rw [HNS.out]; exact HR1.out, HLP.out, HMP.out, HKM.out, HIV.out.drop (.inl (HKM.out.hit HIN.out HKY.out)), HLO.out.drew.drew, fun p hp => HTD.out p (List.mem_append_left _ hp)⟩, by have := HM2.out; omega, by omega⟩
      case measure => have := HM2.out; omega
     ·rw [decide_eq_false hin] at hlk
      obtain ⟨oo, hup, hmet⟩ := update_met (w := wr.drew.drew.drew) HMP.out (fun l hl => up (HKM.out.2 l hl)) (up HPK.out) hin
      unfold pairV at hlk hup
      have HMET := Lib.hid hmet
      clear hmet hin up
      obtain ⟨W9, hW9⟩ : ∃ W, wr.drew.drew.drew.putObj w.heap.size oo = W := ⟨_, rfl⟩
      have B9 := Lib.hid (show Below w.heap.size w W9 by
       rw [← hW9]
       exact ⟨HLO.out.os, HLO.out.tape, HLO.out.output, by simpa using HLO.out.size, fun k hk => (World.putObj_heap_other (by omega)).trans (HLO.out.block k hk)⟩)
      have HO9 := Lib.hid (show ∀ k, w.heap.size + 1 ≤ k → W9.heap[k]? = wr.heap[k]? from fun k hk => by
       rw [← hW9]; exact World.putObj_heap_other (by omega))
      have HS9 := Lib.hid (show W9.heap.size = wr.heap.size by rw [← hW9]; simp)
      have HMET9 := Lib.hid (show MetM W9 w.heap.size _ from by rw [← hW9]; exact HMET.out)
      have HW9 := Lib.hid hW9
      clear hW9 HMET
      have LW := Lib.hid (show Lies w (fun k => S k ∧ k < w.heap.size) (.slice (some ⟨bb, o, none⟩) x.length c3) (dB x) from HLa.out.mono fun k hk hS => ⟨hS, hk⟩)
      have MW := Lib.hid (show Lies w (fun k => S k ∧ k < w.heap.size) (.slice (some ⟨bb2, o2, none⟩) x.length c4) (dB y) from HLb.out.mono fun k hk hS => ⟨hS, hk⟩)
      have L9 := Lib.hid (LW.out.belowT B9.out)
      have M9 := Lib.hid (MW.out.belowT B9.out)
      have htd := HTD.out (x, y) (by simp)
      have HTX := Lib.hid (show ∀ x' ∈ x, ToOK x' from fun x' hx => tdIt_to (tdIs_mem htd.1 hx))
      have HTY := Lib.hid (show ∀ x' ∈ y, ToOK x' from fun x' hx => tdIt_to (tdIs_mem htd.2 hx))
      clear htd
      rw [HLN.out] at M9
      have hxl : x.length ≤ 1000000000 := by
       have h1 := HM2.out
       have h2 : ∀ l : List It, l.length ≤ nIs l := fun l => by induction l with
        | nil => simp
        | cons a r ih => simp only [List.length_cons, nIs]; omega
       have := h2 x
       omega
      have HXL := Lib.hid hxl
      clear hxl
      clear hcell hcell2
      go_wp2_with fail
      go_region
      go_wp2_with fail
      go_region
      go_wp2_with fail
      go_region
      go_wp2_with fail
      rw [HW9.out]
      clear hlk hup
      have CALL := Lib.hid (eqfI_any 168 hdq ToOK sameHead_q x y HTX.out HTY.out _ _ L9.out M9.out (fun _ => HXL.out))
      rw [← HLN.out] at CALL
      refine CALL.out.mono ?_; rintro e w10 ⟨rfl, hb10⟩
      have B10 := Lib.hid (B9.out.trans (hb10.mono B9.out.size))
      have HB10 := Lib.hid hb10
      clear hb10 CALL
      cases hq : eqL hdq x y with
      | false =>
       have HF := Lib.hid (show X ≠ Y from HIV.out.no_len hq)
       clear hq
       go_wp2_with fail
       go_ret
       exact ⟨false, ⟨fun h => by (cases h), fun h => absurd h HF.out⟩, rfl, B10.out⟩
      | true =>
       have HQ := Lib.hid hq
       clear hq
       have HIN0 := Lib.hid (show InR w S (ks ++ [(⟨bb, o, none⟩, ⟨bb2, o2, none⟩, (x.length : Int))]) (St ++ kidsOf (x.take 0, y.take 0)) us1 (.slice (some ⟨g, 0, none⟩) ns cap) w10 from by
        have hs9 := HS9.out
        have hl : (St ++ kidsOf (x.take 0, y.take 0)).length = ns := by simp [kidsOf, hns]
        have hlie : LP w S us1 (St ++ kidsOf (x.take 0, y.take 0)) := by
         rw [show St ++ kidsOf (x.take 0, y.take 0) = St by simp [kidsOf]]
         exact HLP.out
        refine ⟨?_, hlie, HMET9.out.keep (HB10.out.block _ ?_), B10.out⟩
        ·rw [hl]
         exact own_same HR1.out fun a ha hBa => (HB10.out.block a (by omega)).trans (HO9.out a hBa)
        ·obtain ⟨es, c, h, -⟩ := HMET9.out
         exact lt_of_some h)
       clear HMP HR1 HB10 HMET9 HO9 HS9 HW9 L9 M9 HTX HTY hcp c0 c1 B9 HLO
       generalize gk = gT at *
       generalize wr = wT at *
       go_wp2_with fail
       go_loopg [6, 71] x.length (fun gk v6 vi wr => ∃ (i : Nat) (us2 : List Value), vi = .int .i64 (i : Int) ∧ i ≤ x.length ∧ x.length ≤ gk + i ∧ Hid (InR w S (ks ++ [(⟨bb, o, none⟩, ⟨bb2, o2, none⟩, (x.length : Int))]) (St ++ kidsOf (x.take i, y.take i)) us2 v6 wr))
       case atStart => exact ⟨0, us1, rfl, by omega, by omega, HIN0⟩
       case round =>
        clear HIN0
        obtain ⟨i, us2, rfl, hil, hgi, HIN⟩ := hrel
        by_cases hie : i = x.length
        ·have hc : ¬ ((i : Int) < (x.length : Int)) := by omega
         have HE := Lib.hid hie
         clear hie
         go_wp2_with fail
         go_roundg (gT - 1)
         case rel =>
          have e1 : kidsOf (x.take i, y.take i) = kidsOf (x, y) := by rw [HE.out, List.take_length, show y.take x.length = y by rw [HLN.out, List.take_length]]
          have hin := HIN.out
          rw [e1] at hin
          refine ⟨St ++ kidsOf (x, y), (x, y) :: met, us2, _, Lib.hid ⟨hin.row, hin.lie, hin.mp, HKM.out.add HKY.out HPK.out, HIV.out.step HQ.out, hin.low, fun p hp => ?_⟩, ?_, by omega⟩
          ·rcases List.mem_append.1 hp with hp | hp
           ·exact HTD.out p (List.mem_append_left _ hp)
           ·exact td_kids (HTD.out (x, y) (by simp)) p hp
          ·rw [muS_append]
           have := muS_kids (x, y)
           have := HM2.out
           simp only at *
           omega
         case measure => have := HM2.out; omega
        ·have hc : (i : Int) < (x.length : Int) := by omega
         have hlt : i < x.length := by omega
         have hlt2 : i < y.length := by rw [← HLN.out]; exact hlt
         obtain ⟨xi, hx⟩ : ∃ z, x[i]? = some z := ⟨x[i], List.getElem?_eq_getElem hlt⟩
         obtain ⟨yi, hy⟩ : ∃ z, y[i]? = some z := ⟨y[i], List.getElem?_eq_getElem hlt2⟩
         have hbl := hdq_len (blks_at HQ.out hx hy)
         have hib : i ≤ 1000000000 := by have := HXL.out; omega
         have hbb := nIt_mem (List.mem_of_getElem? hx)
         have HKS := Lib.hid (kids_succ HQ.out hx hy)
         obtain ⟨k1, fr1, to1, nm1, al1, tk1, bl⟩ := xi
         obtain ⟨k2, fr2, to2, nm2, al2, tk2, bl2⟩ := yi
         simp only [blksOf] at hbl HKS
         have hbb2 : bl.length ≤ 1000000001 := by
          simp only [nIt] at hbb
          have := nBl_len bl
          have := HM2.out
          omega
         clear hbb
         have hnx : dIs x ≠ [] := fun e0 => by
          have := congrArg List.length e0
          rw [dIs_map, flat_len dIt_len, List.length_nil] at this
          omega
         have hny : dIs y ≠ [] := fun e0 => by
          have := congrArg List.length e0
          rw [dIs_map, flat_len dIt_len, List.length_nil] at this
          omega
         obtain ⟨b7, o7, n7, c7, he7, hn7, hS7, hb7, hcell7⟩ := sl_cell (z := 7) HLa.out hnx
         obtain ⟨b8, o8, n8, c8, he8, hn8, hS8, hb8, hcell8⟩ := sl_cell (z := 7) HLb.out hny
         simp only [Value.slice.injEq, Option.some.injEq, Addr.mk.injEq] at he7 he8
         obtain ⟨⟨rfl, rfl, -⟩, -, rfl⟩ := he7
         obtain ⟨⟨rfl, rfl, -⟩, -, rfl⟩ := he8
         obtain ⟨At, ct, Ab, cb, -, -, -, -, -, -, u6, -, hI⟩ := it_cells hcell7 hx
         obtain ⟨At2, ct2, Ab2, cb2, -, -, -, -, -, -, v6, -, hJ⟩ := it_cells hcell8 hy
         have HBL := Lib.hid hbl
         rw [← hbl] at v6 hJ
         have HI := Lib.hid hI
         have HJ := Lib.hid hJ
         have HU6 := Lib.hid u6
         have HV6 := Lib.hid v6
         have HB7 := Lib.hid hb7
         have HB8 := Lib.hid hb8
         have HLO := Lib.hid HIN.out.low
         have q6 : wr.cell? ⟨bb, o + i * 7 + 6, none⟩ = some (.slice Ab bl.length cb) := by rw [World.cell?_of_block (w := w) (HLO.out.block _ HB7.out)]; exact HU6.out
         clear hcell7 hcell8 hx hy hI hJ u6 v6 hnx hny hbl hb7 hb8 hn7 hn8 hie
         have HI0 := Lib.hid (show InR w S (ks ++ [(⟨bb, o, none⟩, ⟨bb2, o2, none⟩, (x.length : Int))]) ((St ++ kidsOf (x.take i, y.take i)) ++ (bl.take 0).zip (bl2.take 0)) us2 u6 wr from by
          rw [show (St ++ kidsOf (x.take i, y.take i)) ++ (bl.take 0).zip (bl2.take 0) = St ++ kidsOf (x.take i, y.take i) by simp]
          exact HIN.out)
         clear HIN HLO
         generalize gk = gO at *
         generalize wr = wO at *
         go_wp2_with fail
         go_loopg [6, 80] bl.length (fun gk v6 vi wr => ∃ (j : Nat) (us3 : List Value), vi = .int .i64 (j : Int) ∧ j ≤ bl.length ∧ bl.length ≤ gk + j ∧ Hid (InR w S (ks ++ [(⟨bb, o, none⟩, ⟨bb2, o2, none⟩, (x.length : Int))]) ((St ++ kidsOf (x.take i, y.take i)) ++ (bl.take j).zip (bl2.take j)) us3 v6 wr))
         case atStart => exact ⟨0, us2, rfl, by omega, by omega, HI0⟩
         case round =>
          clear HI0 q6
          obtain ⟨j, us3, rfl, hjl, hgj, HIN⟩ := hrel
          by_cases hje : j = bl.length
          ·have hc : ¬ ((j : Int) < (bl.length : Int)) := by omega
           have HE := Lib.hid hje
           clear hje
           go_wp2_with fail
           go_roundg (gO - 1)
           case rel =>
            have e1 : (St ++ kidsOf (x.take i, y.take i)) ++ (bl.take j).zip (bl2.take j) = St ++ kidsOf (x.take (i + 1), y.take (i + 1)) := by
             rw [HKS.out, HE.out, List.take_length, show bl2.take bl.length = bl2 by rw [HBL.out, List.take_length], List.append_assoc]
            have hin := HIN.out
            rw [e1] at hin
            exact ⟨i + 1, us3, by simp, by omega, by omega, Lib.hid hin⟩
           case measure => omega
          ·have hc : (j : Int) < (bl.length : Int) := by omega
           have hltj : j < bl.length := by omega
           clear hje
           have hj2 : j < bl2.length := by rw [← HBL.out]; exact hltj
           have hnb : dBl bl ≠ [] := fun e0 => by have := congrArg List.length e0; rw [dBl_len, List.length_nil] at this; omega
           have hnb2 : dBl bl2 ≠ [] := fun e0 => by have := congrArg List.length e0; rw [dBl_len, List.length_nil] at this; omega
           obtain ⟨b5, o5, n5, k5, he5, -, -, hb5, hcell5⟩ := sl_cell (z := 1) HI.out hnb
           obtain ⟨b6, o6, n6, k6, he6, -, -, hb6, hcell6⟩ := sl_cell (z := 1) HJ.out hnb2
           simp only [Value.slice.injEq] at he5 he6
           obtain ⟨rfl, -, rfl⟩ := he5
           obtain ⟨rfl, -, rfl⟩ := he6
           obtain ⟨va5, g5, l5⟩ := hcell5 j _ (dBl_get bl j hltj)
           obtain ⟨va6, g6, l6⟩ := hcell6 j _ (dBl_get bl2 j hj2)
           have hzip : (bl.take (j + 1)).zip (bl2.take (j + 1)) = (bl.take j).zip (bl2.take j) ++ [(bl[j], bl2[j])] := by
            rw [List.take_add_one, List.take_add_one, List.getElem?_eq_getElem hltj, List.getElem?_eq_getElem hj2, List.zip_append (by simp; omega)]
            rfl
           generalize bl[j] = X5 at l5 hzip
           generalize bl2[j] = X6 at l6 hzip
           obtain ⟨A5, c5, rfl⟩ := dB_len l5
           obtain ⟨A6, c6, rfl⟩ := dB_len l6
           have hin := HIN.out
           have HZ := Lib.hid hzip
           have L5 := Lib.hid l5
           have L6 := Lib.hid l6
           have hlo := hin.low
           have G0 := Lib.hid (show ∀ W, Below w.heap.size w W → W.cell? ⟨bb, o + i * 7 + 6, none⟩ = some (.slice (some ⟨b5, o5, none⟩) bl.length cb) from fun W h => by rw [World.cell?_of_block (w := w) (h.block _ HB7.out)]; exact HU6.out)
           have G1 := Lib.hid (show ∀ W, Below w.heap.size w W → W.cell? ⟨bb2, o2 + i * 7 + 6, none⟩ = some (.slice (some ⟨b6, o6, none⟩) bl.length cb2) from fun W h => by rw [World.cell?_of_block (w := w) (h.block _ HB8.out)]; exact HV6.out)
           have G2 := Lib.hid (show ∀ W, Below w.heap.size w W → W.cell? ⟨b5, o5 + j, none⟩ = some (.slice A5 X5.length c5) from fun W h => by rw [World.cell?_of_block (w := w) (h.block _ hb5)]; exact g5)
           have G3 := Lib.hid (show ∀ W, Below w.heap.size w W → W.cell? ⟨b6, o6 + j, none⟩ = some (.slice A6 X6.length c6) from fun W h => by rw [World.cell?_of_block (w := w) (h.block _ hb6)]; exact g6)
           have HLEN := Lib.hid (show ((St ++ kidsOf (x.take i, y.take i)) ++ (bl.take j).zip (bl2.take j)).length ≤ 2000000003 from by
            have q1 := HNL.out
            have q2 := mu_len (kidsOf (x.take i, y.take i))
            have q3 := muS_kids (x.take i, y.take i)
            have q4 := nIs_take x i
            have q5 := HM2.out
            have q6 := mu_len St
            simp only at q3
            simp only [List.length_append, List.length_zip, List.length_take]
            omega)
           have HSZ := Lib.hid (show w.heap.size + 1 ≤ wr.heap.size from by
            obtain ⟨es, c, h, -⟩ := hin.mp
            exact lt_of_some h)
           have HST := Lib.hid (fun vs => SmI.start (vs := vs) (vals := (fun z => match z with | 0 => u6 | 1 => .slice (some ⟨bb, o, none⟩) x.length c3 | 2 => .int .i64 (i : Int) | 3 => .pointer (some ⟨bb, o + i * 7, none⟩) | 4 => .pointer (some ⟨bb, o + i * 7 + 6, none⟩) | 5 => .slice (some ⟨b5, o5, none⟩) bl.length cb | 6 => .int .i64 (j : Int) | 7 => .pointer (some ⟨b5, o5 + j, none⟩) | 8 => .slice A5 X5.length c5 | 9 => .slice (some ⟨bb2, o2, none⟩) x.length c4 | 10 => .int .i64 (i : Int) | 11 => .pointer (some ⟨bb2, o2 + i * 7, none⟩) | 12 => .pointer (some ⟨bb2, o2 + i * 7 + 6, none⟩) | 13 => .slice (some ⟨b6, o6, none⟩) bl.length cb2 | 14 => .int .i64 (j : Int) | 15 => .pointer (some ⟨b6, o6 + j, none⟩) | 16 => .slice A6 X6.length c6 | 17 => .agg #[.slice A5 X5.length c5, .slice A6 X6.length c6] | _ => undef)) (c0 := .slice A5 X5.length c5) (c1 := .slice A6 X6.length c6) hin.low hin.mp hin.row HSZ.out)
           clear hcell5 hcell6 g5 g6 l5 l6 hzip hin hlo hnb hnb2 hb5 hb6
           have hc2 : ((i : Int) < (x.length : Int)) := by omega
           go_wp2_with fail
           refine region_inv (n := 105) (SmI (fun z => match z with | 0 => u6 | 1 => .slice (some ⟨bb, o, none⟩) x.length c3 | 2 => .int .i64 (i : Int) | 3 => .pointer (some ⟨bb, o + i * 7, none⟩) | 4 => .pointer (some ⟨bb, o + i * 7 + 6, none⟩) | 5 => .slice (some ⟨b5, o5, none⟩) bl.length cb | 6 => .int .i64 (j : Int) | 7 => .pointer (some ⟨b5, o5 + j, none⟩) | 8 => .slice A5 X5.length c5 | 9 => .slice (some ⟨bb2, o2, none⟩) x.length c4 | 10 => .int .i64 (i : Int) | 11 => .pointer (some ⟨bb2, o2 + i * 7, none⟩) | 12 => .pointer (some ⟨bb2, o2 + i * 7 + 6, none⟩) | 13 => .slice (some ⟨b6, o6, none⟩) bl.length cb2 | 14 => .int .i64 (j : Int) | 15 => .pointer (some ⟨b6, o6 + j, none⟩) | 16 => .slice A6 X6.length c6 | 17 => .agg #[.slice A5 X5.length c5, .slice A6 X6.length c6] | _ => undef) w w.heap.size (ks ++ [(⟨bb, o, none⟩, ⟨bb2, o2, none⟩, (x.length : Int))]) (w.heap.size + 1) 222 ((St ++ kidsOf (x.take i, y.take i)) ++ (bl.take j).zip (bl2.take j)).length u6 us3 (.slice A5 X5.length c5) (.slice A6 X6.length c6)) (by kernel_rfl) (by kernel_rfl) rfl ?_ (allOps_spec ?_) ?_
           ·intro vs
            exact HST.out vs
           ·clear HST
            refine ⟨?_, ?_, ?_, ?_, ?_, ?_, ?_, ?_, ?_, ?_, ?_, ?_, ?_, ?_, ?_, ?_, ?_, ?_, ?_, ?_, ?_, trivial⟩
            ·intro L vs a w2 hB hL hd hI
             have h19 : L 19 = false := hB.wait 0 19 hL (by kernel_rfl)
             have h20 : L 20 = false := hB.wait 19 20 h19 (by kernel_rfl)
             have b6 : a.tmps[6]?.getD undef = u6 := hB.pre 6 19 h19 (by kernel_rfl)
             exact stepI_run (v := u6) rfl (by simp [execOp, go_sem, Act.eval, b6]) (hI.rdT 0 (by omega))
            ·intro L vs a w2 hB hL hd hI
             have b7 : a.tmps[7]?.getD undef = .slice (some ⟨bb, o, none⟩) x.length c3 := hB.at 7 (by kernel_rfl)
             exact stepI_run (v := .slice (some ⟨bb, o, none⟩) x.length c3) rfl (by simp [execOp, go_sem, Act.eval, b7]) (hI.rdT 1 (by omega))
            ·intro L vs a w2 hB hL hd hI
             have b9 : a.tmps[9]?.getD undef = .int .i64 (i : Int) := hB.at 9 (by kernel_rfl)
             exact stepI_run (v := .int .i64 (i : Int)) rfl (by simp [execOp, go_sem, Act.eval, b9]) (hI.rdT 2 (by omega))
            ·intro L vs a w2 hB hL hd hI
             have d1 : a.tmps[84]?.getD undef = _ := (hB.val 1 (hd ⟨1, .data⟩ (by simp) rfl) 84 rfl).trans (hI.rd 1 (by omega) (hd ⟨1, .data⟩ (by simp) rfl))
             have d2 : a.tmps[85]?.getD undef = _ := (hB.val 2 (hd ⟨2, .data⟩ (by simp) rfl) 85 rfl).trans (hI.rd 2 (by omega) (hd ⟨2, .data⟩ (by simp) rfl))
             exact stepI_run (v := .pointer (some ⟨bb, o + i * 7, none⟩)) rfl (by simp [execOp, go_sem, Act.eval, d1, d2, hc2]) (hI.rdT 3 (by omega))
            ·intro L vs a w2 hB hL hd hI
             have d3 : a.tmps[86]?.getD undef = _ := (hB.val 3 (hd ⟨3, .data⟩ (by simp) rfl) 86 rfl).trans (hI.rd 3 (by omega) (hd ⟨3, .data⟩ (by simp) rfl))
             exact stepI_run (v := .pointer (some ⟨bb, o + i * 7 + 6, none⟩)) rfl (by simp [execOp, go_sem, Act.eval, d3]) (hI.rdT 4 (by omega))
            ·intro L vs a w2 hB hL hd hI
             have d4 : a.tmps[87]?.getD undef = _ := (hB.val 4 (hd ⟨4, .data⟩ (by simp) rfl) 87 rfl).trans (hI.rd 4 (by omega) (hd ⟨4, .data⟩ (by simp) rfl))
             have g := G0.out w2 hI.low
             exact stepI_run (v := .slice (some ⟨b5, o5, none⟩) bl.length cb) rfl (by simp [execOp, go_sem, Act.eval, d4, g]) (hI.rdT 5 (by omega))
            ·intro L vs a w2 hB hL hd hI
             have b10 : a.tmps[10]?.getD undef = .int .i64 (j : Int) := hB.at 10 (by kernel_rfl)
             exact stepI_run (v := .int .i64 (j : Int)) rfl (by simp [execOp, go_sem, Act.eval, b10]) (hI.rdT 6 (by omega))
            ·intro L vs a w2 hB hL hd hI
             have d5 : a.tmps[88]?.getD undef = _ := (hB.val 5 (hd ⟨5, .data⟩ (by simp) rfl) 88 rfl).trans (hI.rd 5 (by omega) (hd ⟨5, .data⟩ (by simp) rfl))
             have d6 : a.tmps[89]?.getD undef = _ := (hB.val 6 (hd ⟨6, .data⟩ (by simp) rfl) 89 rfl).trans (hI.rd 6 (by omega) (hd ⟨6, .data⟩ (by simp) rfl))
             exact stepI_run (v := .pointer (some ⟨b5, o5 + j, none⟩)) rfl (by simp [execOp, go_sem, Act.eval, d5, d6, hc]) (hI.rdT 7 (by omega))
            ·intro L vs a w2 hB hL hd hI
             have d7 : a.tmps[90]?.getD undef = _ := (hB.val 7 (hd ⟨7, .data⟩ (by simp) rfl) 90 rfl).trans (hI.rd 7 (by omega) (hd ⟨7, .data⟩ (by simp) rfl))
             have g := G2.out w2 hI.low
             exact stepI_run (v := .slice A5 X5.length c5) rfl (by simp [execOp, go_sem, Act.eval, d7, g]) (hI.rdT 8 (by omega))
            ·intro L vs a w2 hB hL hd hI
             have b8 : a.tmps[8]?.getD undef = .slice (some ⟨bb2, o2, none⟩) x.length c4 := hB.at 8 (by kernel_rfl)
             exact stepI_run (v := .slice (some ⟨bb2, o2, none⟩) x.length c4) rfl (by simp [execOp, go_sem, Act.eval, b8]) (hI.rdT 9 (by omega))
            ·intro L vs a w2 hB hL hd hI
             have b9 : a.tmps[9]?.getD undef = .int .i64 (i : Int) := hB.at 9 (by kernel_rfl)
             exact stepI_run (v := .int .i64 (i : Int)) rfl (by simp [execOp, go_sem, Act.eval, b9]) (hI.rdT 10 (by omega))
            ·intro L vs a w2 hB hL hd hI
             have d9 : a.tmps[92]?.getD undef = _ := (hB.val 9 (hd ⟨9, .data⟩ (by simp) rfl) 92 rfl).trans (hI.rd 9 (by omega) (hd ⟨9, .data⟩ (by simp) rfl))
             have d10 : a.tmps[93]?.getD undef = _ := (hB.val 10 (hd ⟨10, .data⟩ (by simp) rfl) 93 rfl).trans (hI.rd 10 (by omega) (hd ⟨10, .data⟩ (by simp) rfl))
             exact stepI_run (v := .pointer (some ⟨bb2, o2 + i * 7, none⟩)) rfl (by simp [execOp, go_sem, Act.eval, d9, d10, hc2]) (hI.rdT 11 (by omega))
            ·intro L vs a w2 hB hL hd hI
             have d11 : a.tmps[94]?.getD undef = _ := (hB.val 11 (hd ⟨11, .data⟩ (by simp) rfl) 94 rfl).trans (hI.rd 11 (by omega) (hd ⟨11, .data⟩ (by simp) rfl))
             exact stepI_run (v := .pointer (some ⟨bb2, o2 + i * 7 + 6, none⟩)) rfl (by simp [execOp, go_sem, Act.eval, d11]) (hI.rdT 12 (by omega))
            ·intro L vs a w2 hB hL hd hI
             have d12 : a.tmps[95]?.getD undef = _ := (hB.val 12 (hd ⟨12, .data⟩ (by simp) rfl) 95 rfl).trans (hI.rd 12 (by omega) (hd ⟨12, .data⟩ (by simp) rfl))
             have g := G1.out w2 hI.low
             exact stepI_run (v := .slice (some ⟨b6, o6, none⟩) bl.length cb2) rfl (by simp [execOp, go_sem, Act.eval, d12, g]) (hI.rdT 13 (by omega))
            ·intro L vs a w2 hB hL hd hI
             have b10 : a.tmps[10]?.getD undef = .int .i64 (j : Int) := hB.at 10 (by kernel_rfl)
             exact stepI_run (v := .int .i64 (j : Int)) rfl (by simp [execOp, go_sem, Act.eval, b10]) (hI.rdT 14 (by omega))
            ·intro L vs a w2 hB hL hd hI
             have d13 : a.tmps[96]?.getD undef = _ := (hB.val 13 (hd ⟨13, .data⟩ (by simp) rfl) 96 rfl).trans (hI.rd 13 (by omega) (hd ⟨13, .data⟩ (by simp) rfl))
             have d14 : a.tmps[97]?.getD undef = _ := (hB.val 14 (hd ⟨14, .data⟩ (by simp) rfl) 97 rfl).trans (hI.rd 14 (by omega) (hd ⟨14, .data⟩ (by simp) rfl))
             exact stepI_run (v := .pointer (some ⟨b6, o6 + j, none⟩)) rfl (by simp [execOp, go_sem, Act.eval, d13, d14, hc]) (hI.rdT 15 (by omega))
            ·intro L vs a w2 hB hL hd hI
             have d15 : a.tmps[98]?.getD undef = _ := (hB.val 15 (hd ⟨15, .data⟩ (by simp) rfl) 98 rfl).trans (hI.rd 15 (by omega) (hd ⟨15, .data⟩ (by simp) rfl))
             have g := G3.out w2 hI.low
             exact stepI_run (v := .slice A6 X6.length c6) rfl (by simp [execOp, go_sem, Act.eval, d15, g]) (hI.rdT 16 (by omega))
            ·intro L vs a w2 hB hL hd hI
             have d8 : a.tmps[91]?.getD undef = _ := (hB.val 8 (hd ⟨8, .data⟩ (by simp) rfl) 91 rfl).trans (hI.rd 8 (by omega) (hd ⟨8, .data⟩ (by simp) rfl))
             have d16 : a.tmps[99]?.getD undef = _ := (hB.val 16 (hd ⟨16, .data⟩ (by simp) rfl) 99 rfl).trans (hI.rd 16 (by omega) (hd ⟨16, .data⟩ (by simp) rfl))
             exact stepI_run (v := .agg #[.slice A5 X5.length c5, .slice A6 X6.length c6]) rfl (by simp [execOp, go_sem, Act.eval, d8, d16]) (hI.rdT 17 (by omega))
            ·intro L vs a w2 hB hL hd hI
             have d17 : a.tmps[100]?.getD undef = _ := (hB.val 17 (hd ⟨17, .data⟩ (by simp) rfl) 100 rfl).trans (hI.rd 17 (by omega) (hd ⟨17, .data⟩ (by simp) rfl))
             have h19 : L 19 = false := hB.wait 18 19 hL (by kernel_rfl)
             have h20 : L 20 = false := hB.wait 19 20 h19 (by kernel_rfl)
             exact stepI_run (v := .slice (some ⟨w2.heap.size, 0, none⟩) 1 1) (w' := w2.alloc (.cells #[.slice A5 X5.length c5, .slice A6 X6.length c6] 222)) rfl (by simp [execOp, go_sem, Act.eval, d17]) (hI.lit h19 h20 (by omega))
            ·intro L vs a w2 hB hL hd hI
             have h18 : L 18 = true := hd ⟨18, .data⟩ (by simp) rfl
             have h20 : L 20 = false := hB.wait 19 20 hL (by kernel_rfl)
             have d0 : a.tmps[83]?.getD undef = u6 := (hB.val 0 (hd ⟨0, .data⟩ (by simp) rfl) 83 rfl).trans (hI.rd 0 (by omega) (hd ⟨0, .data⟩ (by simp) rfl))
             have d18 : a.tmps[101]?.getD undef = vs 18 := hB.val 18 h18 101 rfl
             exact stepI_app hI Tryz.underlying223 info_Pair rfl rfl rfl d0 d18 h18 hL h20 (by have := HLEN.out; omega) (by decide) (by omega) (by omega) rfl rfl
            ·intro L vs a w2 hB hL hd hI
             have h19 : L 19 = true := hd ⟨19, .data⟩ (by simp) rfl
             have d19 : a.tmps[102]?.getD undef = vs 19 := hB.val 19 h19 102 rfl
             exact stepI_run (v := vs 19) rfl (by simp [execOp, go_sem, Act.eval, d19]) (hI.fin h19)
           ·intro L vs w2 hall hI
            obtain ⟨h, cap2, e19, hrow⟩ := hI.don (hall 19 (by decide))
            have e20 := hI.asg (hall 20 (by decide))
            rw [e19] at e20 hrow
            have hnext := Lib.hid (show InR w S (ks ++ [(⟨bb, o, none⟩, ⟨bb2, o2, none⟩, (x.length : Int))]) ((St ++ kidsOf (x.take i, y.take i)) ++ (bl.take (j + 1)).zip (bl2.take (j + 1))) (us3 ++ [.slice A5 X5.length c5, .slice A6 X6.length c6]) (.slice (some ⟨h, 0, none⟩) (((St ++ kidsOf (x.take i, y.take i)) ++ (bl.take j).zip (bl2.take j)).length + 1) cap2) w2 from by
             rw [HZ.out, ← List.append_assoc]
             refine ⟨by rw [List.length_append (bs := [(X5, X6)])]; exact hrow, ?_, hI.mp, hI.low⟩
             have hlie := HIN.out.lie
             unfold LP at hlie ⊢
             rw [List.flatMap_append]
             exact LiesL.append hlie (LiesL.cons L5.out (LiesL.cons L6.out (LiesL.nil _ _))))
            have hjb : j ≤ 1000000001 := by omega
            clear hrow hI hall
            simp only [putAll, Act.put, List.setIfInBounds_toArray, List.set_cons_zero, List.set_cons_succ, Nat.zero_add, Nat.reduceAdd, e19, e20]
            clear e19 e20
            go_wp2_with fail
            go_roundg (gk - 1)
            case rel => exact ⟨j + 1, _, by simp, by omega, by omega, hnext⟩
            case measure => omega
   ·have HNE := Lib.hid (show X ≠ Y from HIV.out.no_len (eqL_len hlen))
    have e2 : ((x.length : Int) == (y.length : Int)) = false := by rw [beq_eq_false_iff_ne]; omega
    clear hlen
    go_wp2_with fail
    go_region
    go_wp2_with fail
    all_goals
     go_ret
     exact ⟨false, ⟨fun h => by (cases h), fun h => absurd h HNE.out⟩, rfl, HLO.out.drew⟩
end
end Go.Proofs.YtekpefcggikcbaaGreatDoor
