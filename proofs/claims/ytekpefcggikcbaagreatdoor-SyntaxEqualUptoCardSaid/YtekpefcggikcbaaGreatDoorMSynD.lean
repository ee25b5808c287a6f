/- Data with depth in memory: cells and slices of cells, whatever lies in them. -/
import Derived.Test.YtekpefcggikcbaaGreatDoorMLexSp
import Derived.Laws.OwnMore
import Derived.ArgAppend
import Derived.Deep.LoopGhost
import Derived.Laws.ResultCell
import Derived.Laws.Rows
namespace Go.Proofs.YtekpefcggikcbaaGreatDoor
/- Data with depth in memory: cells and slices of cells, whatever lies in them. -/
open Go.RowKit

inductive D where
 | c (v : Value)
 | s (z : Nat) (l : List D)
/-- A block of cells that are not frozen. -/
def Pl (w : World) (b : Nat) : Prop := ∃ cs e, w.heap[b]? = some (.cells cs e)
theorem Pl.lt {w : World} {b : Nat} (h : Pl w b) : b < w.heap.size := by
 obtain ⟨cs, e, h⟩ := h
 exact lt_of_some h
theorem Pl.keep {w w' : World} {b : Nat} (h : Pl w b) (hb : w'.heap[b]? = w.heap[b]?) : Pl w' b := by
 obtain ⟨cs, e, h⟩ := h
 exact ⟨cs, e, hb.trans h⟩
/-- A block that is there; one of rows of seven cells (items) is plain. -/
def PlZ (w : World) (b z : Nat) : Prop := b < w.heap.size ∧ (z = 7 → Pl w b)
theorem PlZ.lt {w : World} {b z : Nat} (h : PlZ w b z) : b < w.heap.size := h.1
theorem Pl.z {w : World} {b : Nat} (h : Pl w b) (z : Nat) : PlZ w b z := ⟨h.lt, fun _ => h⟩
theorem PlZ.keep {w w' : World} {b z : Nat} (h : PlZ w b z) (hs : w.heap.size ≤ w'.heap.size) (hb : w'.heap[b]? = w.heap[b]?) : PlZ w' b z := ⟨Nat.lt_of_lt_of_le h.1 hs, fun e => (h.2 e).keep hb⟩
/-- v is the datum d, in blocks that fulfil S. -/
inductive Lies (w : World) (S : Nat → Prop) : Value → D → Prop where
 | c (v : Value) : v.oneCell' = true → Lies w S v (.c v)
 | nil (z : Nat) : Lies w S (.slice none 0 0) (.s z [])
 | e0 (ad : Addr) (cap z : Nat) : Lies w S (.slice (some ad) 0 cap) (.s z [])
 | sl (b o n cap z : Nat) (us : List Value) (l : List D) : S b → PlZ w b z → us.length = l.length → n * z = l.length → n ≤ cap →
   (∀ (i : Nat) (u : Value), us[i]? = some u → w.cell? ⟨b, o + i, none⟩ = some u) → (∀ (i : Nat) (u : Value) (d : D), us[i]? = some u → l[i]? = some d → Lies w S u d) → Lies w S (.slice (some ⟨b, o, none⟩) n cap) (.s z l)
/-- The values us are the data ds. -/
def LiesL (w : World) (S : Nat → Prop) (us : List Value) (ds : List D) : Prop := us.length = ds.length ∧ ∀ (i : Nat) (u : Value) (d : D), us[i]? = some u → ds[i]? = some d → Lies w S u d
section
variable {w w' : World} {S T : Nat → Prop} {v : Value} {d : D} {us : List Value} {ds : List D}
theorem Lies.mono (hST : ∀ k, k < w.heap.size → S k → T k) (h : Lies w S v d) : Lies w T v d := by
 induction h with
 | c v h => exact .c v h
 | nil z => exact .nil z
 | e0 ad cap z => exact .e0 ad cap z
 | sl b o n cap z us l h1 h2 h3 h4 h5 h6 _ ih => exact .sl b o n cap z us l (hST _ h2.lt h1) h2 h3 h4 h5 h6 ih
theorem Lies.keep (hs : w.heap.size ≤ w'.heap.size) (hb : ∀ k, k < w.heap.size → S k → w'.heap[k]? = w.heap[k]?) (h : Lies w S v d) : Lies w' S v d := by
 induction h with
 | c v h => exact .c v h
 | nil z => exact .nil z
 | e0 ad cap z => exact .e0 ad cap z
 | sl b o n cap z us l h1 h2 h3 h4 h5 h6 _ ih =>
  refine .sl b o n cap z us l h1 (h2.keep hs (hb _ h2.lt h1)) h3 h4 h5 (fun i u hu => ?_) ih
  rw [World.cell?_of_block (w := w) (hb _ h2.lt h1)]
  exact h6 i u hu
theorem Lies.one (h : Lies w S v d) : v.oneCell' = true := by
 cases h with
 | c _ h => exact h
 | nil => rfl
 | e0 => rfl
 | sl => rfl
theorem LiesL.mono (hST : ∀ k, k < w.heap.size → S k → T k) (h : LiesL w S us ds) : LiesL w T us ds := ⟨h.1, fun i u d hu hd => (h.2 i u d hu hd).mono hST⟩
theorem LiesL.keep (hs : w.heap.size ≤ w'.heap.size) (hb : ∀ k, k < w.heap.size → S k → w'.heap[k]? = w.heap[k]?) (h : LiesL w S us ds) : LiesL w' S us ds := ⟨h.1, fun i u d hu hd => (h.2 i u d hu hd).keep hs hb⟩
theorem LiesL.nil (w : World) (S : Nat → Prop) : LiesL w S [] [] := ⟨rfl, fun i u d hu _ => by simp at hu⟩
theorem LiesL.cons (h : Lies w S v d) (k : LiesL w S us ds) : LiesL w S (v :: us) (d :: ds) := by
 refine ⟨by simp [k.1], fun i u e hu he => ?_⟩
 cases i with
 | zero => simp at hu he; subst hu; subst he; exact h
 | succ i => exact k.2 i u e (by simpa using hu) (by simpa using he)
theorem LiesL.append {us2 : List Value} {ds2 : List D} (h : LiesL w S us ds) (k : LiesL w S us2 ds2) : LiesL w S (us ++ us2) (ds ++ ds2) := by
 refine ⟨by simp [h.1, k.1], fun i u d hu hd => ?_⟩
 by_cases hi : i < us.length
 ·rw [List.getElem?_append_left hi] at hu
  rw [List.getElem?_append_left (by rw [← h.1]; exact hi)] at hd
  exact h.2 i u d hu hd
 ·rw [List.getElem?_append_right (by omega)] at hu
  rw [List.getElem?_append_right (by rw [← h.1]; omega), ← h.1] at hd
  exact k.2 _ u d hu hd
theorem LiesL.one (h : LiesL w S us ds) : ∀ u ∈ us, u.oneCell' = true := by
 intro u hu
 obtain ⟨i, hi⟩ := List.getElem?_of_mem hu
 have hlt : i < ds.length := by rw [← h.1]; exact (List.getElem?_eq_some_iff.1 hi).1
 exact (h.2 i u ds[i] hi (List.getElem?_eq_getElem hlt)).one
theorem Lies.slc {z : Nat} {l : List D} (h : Lies w S v (.s z l)) : ∃ A n c, v = .slice A n c ∧ n * z = l.length := by
 cases h with
 | nil => exact ⟨_, _, _, rfl, by simp⟩
 | e0 => exact ⟨_, _, _, rfl, by simp⟩
 | sl b o n cap _ us l _ _ _ h4 => exact ⟨_, _, _, rfl, h4⟩
theorem Lies.cell_eq {u : Value} (h : Lies w S v (.c u)) : v = u := by cases h; rfl
end
/-- A row of the call's own, under construction: its elements lie in other blocks from B on. -/
def Bld (w : World) (B e z : Nat) (v : Value) (n : Nat) (l : List D) : Prop :=
 ∃ us, w.ownsRow B e z v n us ∧ LiesL w (fun k => B ≤ k ∧ v.ownBlock ≠ some k) us l
section
variable {w w' : World} {B e z n : Nat} {v : Value} {l : List D}
theorem Bld.nil (w : World) (B e z : Nat) : Bld w B e z (.slice none 0 0) 0 [] := ⟨[], World.ownsRow_nil _ _ _ _, LiesL.nil _ _⟩
theorem own_keepB {w w' : World} {B e sz : Nat} {v : Value} {n : Nat} {xs : List Value} (h : w.ownsRow B e sz v n xs) (hk : ∀ a, a < w.heap.size → B ≤ a → w'.heap[a]? = w.heap[a]?) : w'.ownsRow B e sz v n xs := by
 refine ⟨h.1, ?_⟩
 rcases h.2 with h2 | ⟨a, cap, cur, hv, hb, hh, hr⟩
 ·exact .inl h2
 ·exact .inr ⟨a, cap, cur, hv, hb, (hk a (lt_of_some hh) hb).trans hh, hr⟩
theorem Bld.keep (h : Bld w B e z v n l) (hs : w.heap.size ≤ w'.heap.size) (hb : ∀ k, k < w.heap.size → B ≤ k → w'.heap[k]? = w.heap[k]?) : Bld w' B e z v n l := by
 obtain ⟨us, h1, h2⟩ := h
 exact ⟨us, own_keepB h1 hb, h2.keep hs fun k hk hS => hb k hk hS.1⟩
theorem Bld.only {g : Nat} (h : Bld w B e z v n l) (ho : Only g w w') (hg : g < B) : Bld w' B e z v n l := h.keep ho.size fun k hk hB => ho.block k hk (by omega)
theorem Bld.drewN (h : Bld w B e z v n l) (m : Nat) : Bld (w.drewN m) B e z v n l := h.keep (Nat.le_refl _) fun _ _ _ => rfl
theorem Bld.lt (h : Bld w B e z v n l) {b : Nat} (hb : v.ownBlock = some b) : b < w.heap.size := by
 obtain ⟨us, h1, _⟩ := h
 rcases h1.2 with ⟨rfl, _⟩ | ⟨g, cap, cur, rfl, _, hh, _⟩
 ·cases hb
 ·cases hb; exact lt_of_some hh
theorem Bld.len (h : Bld w B e z v n l) : l.length = n * z := by
 obtain ⟨us, h1, h2⟩ := h
 rw [← h2.1]; exact h1.1
theorem Bld.lies (h : Bld w B e z v n l) : Lies w (fun k => B ≤ k) v (.s z l) := by
 obtain ⟨us, h1, h2⟩ := h
 have hcl := @World.ownsRow.cells _ _ _ _ _ _ _ h1
 rcases h1.2 with ⟨rfl, rfl⟩ | ⟨g, cap, cur, rfl, hb, hh, hc, _⟩
 ·have : l = [] := List.eq_nil_of_length_eq_zero (by rw [← h2.1, h1.1]; simp)
  subst this; exact .nil z
 ·exact .sl g 0 n cap z us l hb (Pl.z ⟨cur, e, hh⟩ z) h2.1 (by rw [← h2.1, h1.1]) hc (fun i u hu => by have := hcl (g := g) rfl i u hu; rw [show (⟨g, 0, none⟩ : Addr).add i = ⟨g, 0 + i, none⟩ by unfold Addr.add; split <;> simp_all] at this; exact this) (fun i u d hu hd => (h2.2 i u d hu hd).mono fun k _ hS => hS.1)
/-- A literal of one element: its cells lie in a new block. -/
theorem Bld.lit (w : World) (e : Nat) (cs : Array Value) (ds : List D) (z : Nat) (hz : cs.size = z) (h : LiesL w (fun k => B ≤ k) cs.toList ds) (hB : B ≤ w.heap.size) :
  Bld (w.alloc (.cells cs e)) B e z (.slice (some ⟨w.heap.size, 0, none⟩) 1 1) 1 ds := by
 refine ⟨cs.toList, ⟨by simp [hz], .inr ⟨w.heap.size, 1, cs, rfl, hB, heap_alloc_new w _, Nat.le_refl _, by unfold maxLen; omega, by simp [hz], ?_⟩⟩, ?_⟩
 ·rw [List.take_of_length_le (by simp [hz])]
 ·refine ⟨h.1, fun i u d hu hd => ?_⟩
  refine Lies.keep (w := w) (by simp) (fun k hk _ => Below.heap_alloc w _ k hk) ?_
  refine (h.2 i u d hu hd).mono fun k hk hS => ⟨hS, ?_⟩
  simp [Value.ownBlock]; omega
end
/-- The row v' is the row v, or new. -/
def Fresh (w : World) (v v' : Value) : Prop := ∃ b, v'.ownBlock = some b ∧ (v.ownBlock = some b ∨ w.heap.size ≤ b)
theorem grownBy_trans {a b c : World} {r : Option Nat} (h : a.grownBy b r) (k : b.grownBy c r) : a.grownBy c r :=
 ⟨k.os.trans h.os, k.tape.trans h.tape, k.output.trans h.output, Nat.le_trans h.size k.size, fun i hi hn => (k.block i (Nat.lt_of_lt_of_le hi h.size) hn).trans (h.block i hi hn)⟩
theorem grownBy_none {a b : World} {r : Option Nat} (h : a.grownBy b none) : a.grownBy b r := ⟨h.os, h.tape, h.output, h.size, fun i hi _ => h.block i hi (by simp)⟩
/-- append(s, c) of one element of z cells onto one row of several. -/
theorem appZ {P : Program} {w : World} {ops : Array Oper} {rest : List Oper} {o : Oper} {a : Act} {Q : Exit → Act → World → Prop} (hgd : o.guard = none) (s x : Operand) (t : TypeId)
  (ho : o.op = .call { callee := .builtin .append, args := #[s, x], argTypes := #[t, t] })
  (e : TypeId) (zv : Value) (z by_ : Nat) (hinfo : (P.info? e).map (fun i => (i.zero, i.size, i.bytes)) = some (some zv, z, by_)) (hzs : zv.cells.size = z) (hz : 0 < z) (ht : P.underlying t = some (.slice e))
  (B : Nat) (v : Value) (n : Nat) (xs : List Value) (hs : a.eval s = v) (hown : w.ownsRow B e z v n xs) (cs : Array Value) (hcs : cs.size = z) (hx : a.eval x = .slice (some ⟨w.heap.size, 0, none⟩) 1 1) (h1 : ∀ u ∈ cs.toList, u.oneCell' = true)
  (hr : (n + 1) * by_ ≤ 140737488355328) (hm : n + 1 ≤ 140737488355328) (hB : B ≤ w.heap.size)
  (h : ∀ v' w', w'.ownsRow B e z v' (n + 1) (xs ++ cs.toList) → w.grownBy w' v.ownBlock → Fresh w v v' → wpList P ops Q rest (a.put o.dst v') w') : wpList P ops Q (o :: rest) a (w.alloc (.cells cs e)) := by
 obtain ⟨i0, hi, hz0, hz1, hz2⟩ := info_parts hinfo
 have hlen : cs.toList.length = 1 * z := by simp [hcs]
 have hnews : ∀ j u, cs.toList[j]? = some u → (w.alloc (.cells cs e)).cell? ((⟨w.heap.size, 0, none⟩ : Addr).add j) = some u := by
  intro j u hj
  have e' : (⟨w.heap.size, 0, none⟩ : Addr).add j = ⟨w.heap.size, j, none⟩ := by unfold Addr.add; split <;> simp_all
  rw [e', cell_of_row _ w.heap.size j _ _ _ (heap_alloc_new w _), ← Array.getElem?_toList]
  exact hj
 have up : ∀ {v' : Value} {w' : World}, w'.ownsRow (w.alloc (.cells cs e)).heap.size e z v' (n + 1) (xs ++ cs.toList) → w'.ownsRow B e z v' (n + 1) (xs ++ cs.toList) ∧ Fresh w v v' := by
  intro v' w' ho'
  refine ⟨⟨ho'.1, ?_⟩, ?_⟩
  ·rcases ho'.2 with ⟨_, h0⟩ | ⟨g, cap, cur, h2, h3, h4⟩
   ·omega
   ·exact .inr ⟨g, cap, cur, h2, by simp at h3; omega, h4⟩
  ·rcases ho'.2 with ⟨_, h0⟩ | ⟨g, cap, cur, h2, h3, h4⟩
   ·omega
   ·exact ⟨g, by rw [h2]; rfl, .inr (by simp at h3; omega)⟩
 rcases hown.2 with ⟨rfl, rfl⟩ | ⟨g, cap, cur, rfl, hbg, hg, hnc, hcm, hcs', htake⟩
 ·have hx0 : xs = [] := List.eq_nil_of_length_eq_zero (by simpa using hown.1)
  subst hx0
  refine wpList_append_grows _ hgd s x t ho e i0 zv z by_ ht hi hz0 hz1 hz2 hzs hz none 0 0 [] hs (fun _ => ⟨rfl, rfl⟩) (by simp) (by intro b hb; cases hb) ⟨w.heap.size, 0, none⟩ 1 1 cs.toList hx hlen hnews h1 (by omega) (by unfold maxLen; omega) hr ?_
  intro v' w' ho' hgr
  obtain ⟨k1, k2⟩ := up ho'
  exact h v' w' k1 (grownBy_trans (World.grownBy_alloc w _ _) (grownBy_none hgr)) k2
 ·by_cases hroom : n + 1 ≤ cap
  ·refine wpList_append_fits _ hgd s x t ho B e i0 z ht hi hz1 g n cap xs hs (hown.alloc _) ⟨w.heap.size, 0, none⟩ 1 1 cs.toList hx hlen hnews h1 hroom ?_
   intro w' ho' hgr
   exact h _ w' ho' (grownBy_trans (World.grownBy_alloc w _ _) hgr) ⟨g, rfl, .inl rfl⟩
  ·have holds : ∀ b, some (⟨g, 0, none⟩ : Addr) = some b → ∀ j u, xs[j]? = some u → (w.alloc (.cells cs e)).cell? (b.add j) = some u := fun b hb j u hj => by
    cases hb
    exact (hown.alloc (.cells cs e)).cells (g := g) rfl j u hj
   refine wpList_append_grows _ hgd s x t ho e i0 zv z by_ ht hi hz0 hz1 hz2 hzs hz (some ⟨g, 0, none⟩) n cap xs hs (fun hh => by cases hh) hown.1 holds ⟨w.heap.size, 0, none⟩ 1 1 cs.toList hx hlen hnews h1 (by omega) (by unfold maxLen; omega) hr ?_
   intro v' w' ho' hgr
   obtain ⟨k1, k2⟩ := up ho'
   exact h v' w' k1 (grownBy_trans (World.grownBy_alloc w _ _) (grownBy_none hgr)) k2
/-- The same with the data of the elements. -/
theorem appD {P : Program} {w : World} {ops : Array Oper} {rest : List Oper} {o : Oper} {a : Act} {Q : Exit → Act → World → Prop} (hgd : o.guard = none) (s x : Operand) (t : TypeId)
  (ho : o.op = .call { callee := .builtin .append, args := #[s, x], argTypes := #[t, t] })
  (e : TypeId) (zv : Value) (z by_ : Nat) (hinfo : (P.info? e).map (fun i => (i.zero, i.size, i.bytes)) = some (some zv, z, by_)) (hzs : zv.cells.size = z) (hz : 0 < z) (ht : P.underlying t = some (.slice e))
  (B : Nat) (v : Value) (n : Nat) (l : List D) (hs : a.eval s = v) (hown : Bld w B e z v n l) (cs : Array Value) (ds : List D) (hcs : cs.size = z) (hx : a.eval x = .slice (some ⟨w.heap.size, 0, none⟩) 1 1)
  (h1 : LiesL w (fun k => B ≤ k ∧ v.ownBlock ≠ some k) cs.toList ds)
  (hr : (n + 1) * by_ ≤ 140737488355328) (hB : B ≤ w.heap.size)
  (h : ∀ v' w', Bld w' B e z v' (n + 1) (l ++ ds) → w.grownBy w' v.ownBlock → wpList P ops Q rest (a.put o.dst v') w') (hby : 0 < by_) : wpList P ops Q (o :: rest) a (w.alloc (.cells cs e)) := by
 obtain ⟨us, ho1, ho2⟩ := hown
 refine appZ hgd s x t ho e zv z by_ hinfo hzs hz ht B v n us hs ho1 cs hcs hx h1.one hr ?_ hB ?_
 ·exact Nat.le_trans (Nat.le_mul_of_pos_right _ hby) hr
 ·intro v' w' hown' hgr hfr
  refine h v' w' ⟨us ++ cs.toList, hown', ?_⟩ hgr
  obtain ⟨b, hb, hbb⟩ := hfr
  refine LiesL.mono (S := fun k => k < w.heap.size ∧ B ≤ k ∧ v.ownBlock ≠ some k) ?_ (LiesL.keep (w := w) hgr.size ?_ ((ho2.append h1).mono fun k hk hS => ⟨hk, hS⟩))
  ·intro k _ hS
   refine ⟨hS.2.1, fun hk => ?_⟩
   rw [hb] at hk
   cases hk
   rcases hbb with hbb | hbb
   ·exact hS.2.2 hbb
   ·omega
  ·intro k hk hS
   exact hgr.block k hk (fun e => hS.2.2 e.symm)
theorem grown_below {B e z n : Nat} {w w' : World} {v : Value} {l : List D} (h : Bld w B e z v n l) (hgr : w.grownBy w' v.ownBlock) (hB : B ≤ w.heap.size) : Below B w w' :=
 ⟨hgr.os, hgr.tape, hgr.output, hgr.size, fun k hk => by
  obtain ⟨us, h1, _⟩ := h
  refine hgr.block k (by omega) fun hv => ?_
  rcases h1.2 with ⟨rfl, _⟩ | ⟨g', cap, cur, rfl, hb, hh, _⟩
  ·cases hv
  ·simp only [Value.ownBlock, Option.some.injEq] at hv; omega⟩
/-- A field of a struct's value: of one cell, and a struct. -/
theorem run_field_one {P : Program} {t : TypeId} {i : Nat} {fs : Array Field} {f : Field} {d : TypeDesc} {cs : Array Value} {v : Value} (w : World) (hu : P.underlying t = some (.struct fs)) (hf : fs[i]? = some f) (hd : P.underlying f.type = some d)
  (hna : (match d with | .struct _ | .array _ _ => false | _ => true) = true) (hc : cs[f.offset]? = some v) : (Instr.field t (.agg cs) i).run P w = .ok v w := by
 have h2 : (part f.type cs f.offset).run P w = .ok v w := by
  cases d <;> simp at hna <;> simp [part, isAgg, run_underlying hd, hc]
 simp [Instr.field, run_underlying hu, asAgg, hf, h2]
theorem run_field_agg {P : Program} {t : TypeId} {i z : Nat} {fs : Array Field} {f : Field} {d : TypeDesc} {cs : Array Value} (w : World) (hu : P.underlying t = some (.struct fs)) (hf : fs[i]? = some f) (hd : P.underlying f.type = some d)
  (hna : (match d with | .struct _ | .array _ _ => true | _ => false) = true) (hz : (P.info? f.type).map (·.size) = some z) : (Instr.field t (.agg cs) i).run P w = .ok (.agg (cs.extract f.offset (f.offset + z))) w := by
 have h2 : (part f.type cs f.offset).run P w = .ok (.agg (cs.extract f.offset (f.offset + z))) w := by
  cases hq : P.info? f.type with
  | none => simp [hq] at hz
  | some j =>
   simp only [hq, Option.map_some, Option.some.injEq] at hz
   cases d <;> simp at hna <;> simp [part, isAgg, run_underlying hd, sizeOf, typeInfo, hq, hz]
 simp [Instr.field, run_underlying hu, asAgg, hf, h2]
/- Layer 9: the contracts of strings.HasPrefix at two slashes, and of skip. -/
open Go.RowKit

def slashes (l : List UInt8) : Bool := decide (nxt l = 47) && decide (nxt l.tail = 47)
theorem slashes_take {l : List UInt8} (h : 2 ≤ l.length) : ((ofL (l.take 2)).toList == [47, 47]) = slashes l := by
 match l, h with
 | c :: d :: r, _ =>
  rw [ofL_toList, slashes, Bool.eq_iff_iff]
  simp [nxt, ← UInt8.toNat_inj]
  exact ⟨fun ⟨a, b⟩ => ⟨decide_eq_true a, decide_eq_true b⟩, fun ⟨a, b⟩ => ⟨of_decide_eq_true a, of_decide_eq_true b⟩⟩
theorem slashes_short {l : List UInt8} (h : ¬ 2 ≤ l.length) : slashes l = false := by
 match l, h with
 | [], _ => rfl
 | [c], _ => simp [slashes, nxt]
 | c :: d :: r, h => simp at h
theorem prefix_lite (l : List UInt8) (w : World) : Calls Tryz.prog 173 #[.string (ofL l), .string { data := #[47, 47] }] w (BoolIs (slashes l) w) := by
 have hs := Lib.hid (ofL_size l)
 by_cases h : 2 ≤ l.length
 ·have h2 : 2 ≤ (ofL l).size := by rw [hs.out]; exact h
  have he := Lib.hid (ofL_extract l 0 2)
  have ht := Lib.hid (show (((ofL l).extract 0 2).toList == [47, 47]) = slashes l by rw [he.out]; exact slashes_take h)
  clear h
  go_enter Tryz.func173, Tryz.ntmps173
  go_wp2
  all_goals
   go_ret
   exact BoolIs.mk ht.out
 ·have h2 : ¬ 2 ≤ (ofL l).size := by rw [hs.out]; exact h
  have ht := Lib.hid (slashes_short h)
  clear h
  go_enter Tryz.func173, Tryz.ntmps173
  go_wp2
  go_ret
  exact BoolIs.mk ht.out.symm
theorem prefix_any (l : List UInt8) (w : World) : Calls Tryz.prog 110 #[.string (ofL l), .string { data := #[47, 47] }] w (BoolIs (slashes l) w) := by
 go_enter Tryz.func110, Tryz.ntmps110
 go_wp2_with (refine (prefix_lite _ _).mono ?_; rintro e w' ⟨rfl, rfl⟩)
 go_ret
 exact ⟨rfl, rfl⟩
theorem sort_namePart : IsSort 172 cN := fun n w => isNamePart_any n w
theorem sort_digit : IsSort 116 cD := fun n w => isDigit_any n w
theorem sort_blank : IsSort 109 cB := fun n w => isBlank_any n w
theorem sort_inLine : IsSort 112 cI := fun n w => isInLine_any n w

section
variable {w : World} {g k : Nat} {l : List UInt8}
def SkRel (w : World) (g : Nat) (l : List UInt8) (k gk : Nat) (wr : World) : Prop := ∃ j : Nat, Scn wr g l j ∧ Only g w wr ∧ k ≤ j ∧ j + sk false (l.drop j) = k + sk false (l.drop k) ∧ cB (nxt (l.drop j)) = false ∧ l.length ≤ gk + j
def SkPost (w : World) (g : Nat) (l : List UInt8) (k : Nat) (e : Ending) (w' : World) : Prop := e = .returned (.tuple #[]) ∧ Scn w' g l (k + sk false (l.drop k)) ∧ Only g w w'
theorem SkRel.blank {wr : World} {j n k' gk : Nat} (hS : Scn wr g l k') (hO : Only g w wr) (hn : spn cB (l.drop j) = n) (hk' : j + n = k') (hkj : k ≤ j) (he : j + sk false (l.drop j) = k + sk false (l.drop k)) (hg : l.length ≤ gk + k') : SkRel w g l k gk wr := by
 refine ⟨k', hS, hO, by omega, ?_, ?_, hg⟩
 ·have := sk_blank (l.drop j)
  rw [hn, List.drop_drop, hk'] at this
  omega
 ·have := spn_zero (p := cB) (l := l.drop j) rfl
  rwa [hn, List.drop_drop, hk'] at this
theorem slash_step {l : List UInt8} {j n2 j2 : Nat} (hs : slashes (l.drop j) = true) (hn : spn cI (l.drop j) = n2) (hj : j + n2 = j2) : 1 ≤ n2 ∧ j < l.length ∧ j + sk false (l.drop j) = j2 + sk false (l.drop j2) := by
 simp only [slashes, Bool.and_eq_true, decide_eq_true_eq] at hs
 obtain ⟨c, r, hcr⟩ := nxt_pos (l := l.drop j) (by omega)
 have h1 : 1 ≤ spn cI (l.drop j) := spn_pos (p := fun n => !decide (n = 0) && cI n) rfl (by rw [hs.1]; rfl) |> fun _ => by
  rw [hcr, spn, if_pos]
  ·omega
  ·rw [hcr] at hs; have := hs.1; simp [nxt] at this; simp [cI, this]
 have h2 : j < l.length := by
  have : (l.drop j).length = r.length + 1 := by rw [hcr]; rfl
  simp at this; omega
 have h3 : sk false (l.drop j) = n2 + sk false (l.drop j2) := by
  have := sk_slash (c := c) (r := r) (by have := hs.1; rw [hcr] at this; exact this) (by have := hs.2; rw [hcr] at this; exact this)
  rw [← hcr, hn, List.drop_drop, hj] at this
  exact this
 omega
theorem slash_stop {l : List UInt8} {j : Nat} (hs : slashes (l.drop j) = false) (hb : cB (nxt (l.drop j)) = false) : sk false (l.drop j) = 0 := by
 cases h : l.drop j with
 | nil => rfl
 | cons c r =>
  rw [h] at hs hb
  refine sk_none hb fun h2 => ?_
  have : slashes (c :: r) = true := by
   simp only [slashes, Bool.and_eq_true, decide_eq_true_eq]
   exact h2
  rw [this] at hs; cases hs
set_option maxHeartbeats 400000 in
theorem skip_any (h : Scn w g l k) : Calls Tryz.prog 62 #[.pointer (some ⟨g, 0, none⟩)] w (SkPost w g l k) := by
 obtain ⟨n, hn⟩ : ∃ n, spn cB (l.drop k) = n := ⟨_, rfl⟩
 obtain ⟨k', hk'⟩ : ∃ k', k + n = k' := ⟨_, rfl⟩
 have HN := Lib.hid hn
 have HK := Lib.hid hk'
 clear hn hk'
 have hgt : Hid (l.length ≤ l.length + k') := by unfold Hid; omega
 have H := Lib.hid h; clear h
 go_enter Tryz.func62, Tryz.ntmps62
 go_wp2_with (refine (take_any _ _ sort_blank ent_blank H.out n k' HN.out HK.out).mono ?_; rintro e w1 ⟨rfl, S1, O1⟩)
 go_loopg [] (l.length) (fun gk wr => SkRel w g l k gk wr)
 case atStart => exact SkRel.blank S1 O1 HN.out HK.out (Nat.le_refl _) rfl hgt.out
 case round =>
  obtain ⟨j, S2, O2, hkj, he, hb, hgk⟩ := hrel
  have hE := Lib.hid he
  have hB := Lib.hid hb
  clear S1 O1 he hb HN HK hgt
  have HS2 := Lib.hid S2; clear S2
  have HO2 := Lib.hid O2; clear O2
  cases hsl : slashes (l.drop j) with
  | true =>
   have HSL := Lib.hid hsl; clear hsl
   obtain ⟨n2, hn2⟩ : ∃ n2, spn cI (l.drop j) = n2 := ⟨_, rfl⟩
   obtain ⟨j2, hj2⟩ : ∃ j2, j + n2 = j2 := ⟨_, rfl⟩
   obtain ⟨n3, hn3⟩ : ∃ n3, spn cB (l.drop j2) = n3 := ⟨_, rfl⟩
   obtain ⟨j3, hj3⟩ : ∃ j3, j2 + n3 = j3 := ⟨_, rfl⟩
   have HN2 := Lib.hid hn2
   have HJ2 := Lib.hid hj2
   have HN3 := Lib.hid hn3
   have HJ3 := Lib.hid hj3
   clear hn2 hj2 hn3 hj3
   go_wp2_with fail
   refine (rest_any HS2.out).mono ?_; rintro e w2 ⟨rfl, m, rfl⟩
   go_wp2_with fail
   refine (prefix_any _ _).mono ?_; rintro e w2 ⟨rfl, rfl⟩; rw [HSL.out]
   go_wp2_with fail
   refine (take_any _ _ sort_inLine ent_inLine (HS2.out.drewN m) n2 j2 HN2.out HJ2.out).mono ?_; rintro e w2 ⟨rfl, S3, O3⟩
   go_wp2_with fail
   refine (take_any _ _ sort_blank ent_blank S3 n3 j3 HN3.out HJ3.out).mono ?_; rintro e w3 ⟨rfl, S4, O4⟩
   go_wp2
   go_roundg (gk - 1)
   case rel =>
    have h := slash_step HSL.out HN2.out HJ2.out
    refine SkRel.blank S4 (((HO2.out.drewN m).trans O3).trans O4) HN3.out HJ3.out (by have := HJ2.out; omega) (by have := hE.out; omega) (by have := HJ2.out; have := HJ3.out; omega)
   case measure =>
    have h := slash_step HSL.out HN2.out HJ2.out
    omega
  | false =>
   have HSL := Lib.hid hsl; clear hsl
   go_wp2_with fail
   refine (rest_any HS2.out).mono ?_; rintro e w2 ⟨rfl, m, rfl⟩
   go_wp2_with fail
   refine (prefix_any _ _).mono ?_; rintro e w2 ⟨rfl, rfl⟩; rw [HSL.out]
   go_wp2
   refine bodyPost_ret (v := .tuple #[]) (by simp [results, Tryz.results62, go_sem]) rfl ⟨rfl, ?_, HO2.out.drewN m⟩
   have h0 := slash_stop HSL.out hB.out
   have := hE.out
   rw [h0] at this
   rw [← this]
   exact HS2.out.drewN m
end
/- Layer 9: the contracts of the scanner's methods for names and marks. -/
open Go.RowKit

theorem results_cell_row2 {P : Program} {fn : Func} {p u : Tmp} {ty : TypeId} (h : fn.results = #[.cell p ty, .tmp u]) (tmps : Array Value) (w : World) (g : Nat) (t : TypeId) (cs : Array Value) (fr : Nat × Nat) (d : TypeDesc)
  (hp : tmps.getD p undef = .pointer (some ⟨g, 0, none⟩)) (hg : w.heap[g]? = some (.cells cs t fr))
  (hu : P.underlying ty = some d) (hd : (match d with | .struct _ | .array _ _ => true | _ => false) = true) (hi : (P.info? ty).map (·.size) = some cs.size) :
  (results fn tmps).run P w = .ok (.tuple #[.agg cs, tmps.getD u undef]) w := by
 rw [results_cell_tmp h]
 simp only [hp]
 simp [asAddr, Result.andThen, run_loadVar_row w g t ty cs fr d hg hu hd hi]
def tokV (k : Nat) (t : List UInt8) (v p : Nat) : Value := .agg #[.int .i64 (k : Int), .string (ofL t), .int .i64 (v : Int), .int .i64 (p : Int)]
def TokPost (w : World) (g : Nat) (l : List UInt8) (k : Nat) : Tk → Ending → World → Prop
 | .err x, e, w' => e = .returned (.tuple #[tokV 0 [] 0 0, .int .i64 (x : Int)]) ∧ Only g w w'
 | .ok kd t v n, e, w' => e = .returned (.tuple #[tokV kd t v 0, .int .i64 0]) ∧ Scn w' g l (k + n) ∧ Only g w w'
theorem TokPost.bad {w w' : World} {g : Nat} {l : List UInt8} {k x : Nat} {r : Tk} {e : Ending} (hr : r = .err x) (he : e = .returned (.tuple #[tokV 0 [] 0 0, .int .i64 (x : Int)])) (ho : Only g w w') : TokPost w g l k r e w' := by
 subst hr; exact ⟨he, ho⟩
theorem TokPost.good {w w' : World} {g : Nat} {l : List UInt8} {k kd v n : Nat} {t : List UInt8} {r : Tk} {e : Ending} (hr : r = .ok kd t v n) (he : e = .returned (.tuple #[tokV kd t v 0, .int .i64 0])) (hs : Scn w' g l (k + n)) (ho : Only g w w') : TokPost w g l k r e w' := by
 subst hr; exact ⟨he, hs, ho⟩
section
variable {w : World} {g k : Nat} {l : List UInt8}
theorem Scn.alloc (h : Scn w g l k) (o : Obj) : Scn (w.alloc o) g l k := h.keep (Below.heap_alloc _ _ _ h.lt)
theorem Scn.other (h : Scn w g l k) {b i : Nat} {v : Value} (hb : b ≠ g) : Scn (w.setCell ⟨b, i, none⟩ v) g l k := h.keep (Below.heap_setCell _ _ _ _ (fun e => hb e.symm))
theorem Only.own {g : Nat} {a w : World} (h : Only g a w) {b : Nat} (hb : a.heap.size ≤ b) (i : Nat) (v : Value) : Only g a (w.setCell ⟨b, i, none⟩ v) :=
 ⟨h.os, h.tape, h.output, by simpa [World.setCell] using h.size, fun k hk hn => (Below.heap_setCell _ _ _ _ (by show k ≠ b; omega)).trans (h.block k hk hn)⟩
/-- A token's box. -/
def TBox (w : World) (b : Nat) (kd : Nat) (t : List UInt8) (v p : Nat) : Prop := w.heap[b]? = some (.cells #[.int .i64 (kd : Int), .string (ofL t), .int .i64 (v : Int), .int .i64 (p : Int)] 48 (0, 0))
theorem TBox.cell {w : World} {b kd v p : Nat} {t : List UInt8} (h : TBox w b kd t v p) (i : Nat) : w.cell? ⟨b, i, none⟩ = (#[Value.int .i64 (kd : Int), .string (ofL t), .int .i64 (v : Int), .int .i64 (p : Int)])[i]? := cell_of_row w b i _ _ _ h
theorem TBox.free {w : World} {b kd v p : Nat} {t : List UInt8} (h : TBox w b kd t v p) (i : Nat) : w.frozen? ⟨b, i, none⟩ = false := by unfold TBox at h; simp [World.frozen?, h]
theorem TBox.facts {w : World} {b kd v p : Nat} {t : List UInt8} (h : TBox w b kd t v p) : w.cell? ⟨b, 0, none⟩ = some (.int .i64 (kd : Int)) ∧ w.cell? ⟨b, 1, none⟩ = some (.string (ofL t)) ∧ w.cell? ⟨b, 2, none⟩ = some (.int .i64 (v : Int)) ∧ w.cell? ⟨b, 3, none⟩ = some (.int .i64 (p : Int)) ∧
  w.frozen? ⟨b, 0, none⟩ = false ∧ w.frozen? ⟨b, 1, none⟩ = false ∧ w.frozen? ⟨b, 2, none⟩ = false ∧ w.frozen? ⟨b, 3, none⟩ = false := ⟨h.cell 0, h.cell 1, h.cell 2, h.cell 3, h.free 0, h.free 1, h.free 2, h.free 3⟩
theorem TBox.keep {w w' : World} {g b kd v p : Nat} {t : List UInt8} (h : TBox w b kd t v p) (ho : Only g w w') (hb : b ≠ g) : TBox w' b kd t v p := (ho.block b (lt_of_some h) hb).trans h
theorem TBox.new (w : World) : TBox (w.alloc (.cells #[.int .i64 0, .string ⟨#[]⟩, .int .i64 0, .int .i64 0] 48)) w.heap.size 0 [] 0 0 := heap_alloc_new w _
theorem TBox.store {w : World} {b kd v p : Nat} {t : List UInt8} (h : TBox w b kd t v p) (kd' v' p' : Nat) (t' : List UInt8) :
  TBox ((((w.setCell ⟨b, 0, none⟩ (.int .i64 (kd' : Int))).setCell ⟨b, 1, none⟩ (.string (ofL t'))).setCell ⟨b, 2, none⟩ (.int .i64 (v' : Int))).setCell ⟨b, 3, none⟩ (.int .i64 (p' : Int))) b kd' t' v' p' := by
 unfold TBox at h ⊢
 rw [heap_set (heap_set (heap_set (heap_set h)))]
 rfl
theorem TBox.result {W : World} {b kd v p : Nat} {t : List UInt8} (h : TBox W b kd t v p) {fn : Func} {q u : Tmp} (hf : fn.results = #[.cell q 48, .tmp u]) (tmps : Array Value) (hq : tmps.getD q undef = .pointer (some ⟨b, 0, none⟩)) (x : Value) (hx : tmps.getD u undef = x) :
  (results fn tmps).run Tryz.prog W = .ok (.tuple #[tokV kd t v p, x]) W := by
 subst hx
 exact results_cell_row2 hf tmps W b 48 _ (0, 0) _ hq h Tryz.underlying48 rfl (by kernel_rfl)
set_option maxHeartbeats 400000 in
theorem name_any (h : Scn w g l k) : Calls Tryz.prog 115 #[.pointer (some ⟨g, 0, none⟩)] w (TokPost w g l k (tkName (l.drop k))) := by
 obtain ⟨n, hn⟩ : ∃ n, spn cN (l.drop k) = n := ⟨_, rfl⟩
 obtain ⟨k', hk'⟩ : ∃ k', k + n = k' := ⟨_, rfl⟩
 have hnl : n ≤ l.length - k := by have := spn_le cN (l.drop k); simp at this; omega
 have hsz : (ofL ((l.drop k).take n)).size = n := by rw [ofL_size, List.length_take, List.length_drop]; omega
 have HN := Lib.hid hn
 have HK := Lib.hid hk'
 have hroom := h.room
 have HZ := Lib.hid hsz
 have hlt := h.lt
 clear hn hk' hsz
 have H := Lib.hid h; clear h
 by_cases h16 : 16 < n
 ·have hT := Lib.hid (show tkName (l.drop k) = .err 6 by unfold tkName; rw [HN.out, if_pos h16])
  have h16z : 16 < (ofL ((l.drop k).take n)).size := by rw [HZ.out]; exact h16
  go_enter Tryz.func115, Tryz.ntmps115
  go_wp2_with fail
  refine (take_any _ _ sort_namePart ent_namePart (H.out.alloc _) n k' HN.out HK.out).mono ?_; rintro e w1 ⟨rfl, S1, O1⟩
  have HT := Lib.hid ((TBox.new w).keep O1 (by omega))
  obtain ⟨d0, d1, d2, d3, f0, f1, f2, f3⟩ := HT.out.facts
  have HS := Lib.hid S1
  have HO := Lib.hid O1
  clear S1 O1
  go_wp2
  refine bodyPost_ret (v := .tuple #[tokV 0 [] 0 0, .int .i64 6]) (TBox.result ((HT.out).store 0 0 0 []) Tryz.results115 _ rfl _ rfl) rfl (TokPost.bad hT.out rfl ?_)
  exact (((((((Only.refl g w).alloc _).trans HO.out).own (Nat.le_refl _) _ _).own (Nat.le_refl _) _ _).own (Nat.le_refl _) _ _).own (Nat.le_refl _) _ _)
 ·have hT := Lib.hid (show tkName (l.drop k) = .ok 1 ((l.drop k).take n) 0 n by unfold tkName; rw [HN.out, if_neg h16])
  have h16z : ¬ 16 < (ofL ((l.drop k).take n)).size := by rw [HZ.out]; exact h16
  go_enter Tryz.func115, Tryz.ntmps115
  go_wp2_with fail
  refine (take_any _ _ sort_namePart ent_namePart (H.out.alloc _) n k' HN.out HK.out).mono ?_; rintro e w1 ⟨rfl, S1, O1⟩
  have HT := Lib.hid ((TBox.new w).keep O1 (by omega))
  obtain ⟨d0, d1, d2, d3, f0, f1, f2, f3⟩ := HT.out.facts
  have HS := Lib.hid S1
  have HO := Lib.hid O1
  clear S1 O1
  go_wp2
  refine bodyPost_ret (v := .tuple #[tokV 1 ((l.drop k).take n) 0 0, .int .i64 0]) (TBox.result ((HT.out).store 1 0 0 ((l.drop k).take n)) Tryz.results115 _ rfl _ rfl) rfl (TokPost.good hT.out rfl ?_ ?_)
  ·rw [HK.out]
   exact (((HS.out.other (by omega)).other (by omega)).other (by omega)).other (by omega)
  ·exact (((((((Only.refl g w).alloc _).trans HO.out).own (Nat.le_refl _) _ _).own (Nat.le_refl _) _ _).own (Nat.le_refl _) _ _).own (Nat.le_refl _) _ _)
end
end Go.Proofs.YtekpefcggikcbaaGreatDoor
