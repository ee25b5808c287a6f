/- Layer 10: boxes (structs in memory of their own), and words, path, signed, added. -/
import Derived.Test.YtekpefcggikcbaaGreatDoorMSynQ
import Derived.Test.YtekpefcggikcbaaGreatDoorMLayLex
import Derived.Lib.Join
import Derived.Shelf.Strings.Builder1
import Derived.Lib.LaidTab
import Derived.Test.YtekpefcggikcbaaGreatDoorLayItoa
import Derived.Lib.AppendStr
import Derived.Lib.UnsafeStr
namespace Go.Proofs.YtekpefcggikcbaaGreatDoor
/- Layer 10: boxes (structs in memory of their own), and words, path, signed, added. -/
open Go.RowKit

theorem size_alloc (w : World) (o : Obj) : (w.alloc o).heap.size = w.heap.size + 1 := by simp
theorem size_set (w : World) (a : Addr) (v : Value) : (w.setCell a v).heap.size = w.heap.size := by simp [World.setCell]
/-- Block b holds the cells cs of a struct. -/
def Bx (w : World) (b : Nat) (T : TypeId) (cs : Array Value) : Prop := w.heap[b]? = some (.cells cs T (0, 0))
section
variable {w w' : World} {b T g E : Nat} {cs : Array Value} {s : St}
theorem Bx.new (w : World) (T : TypeId) (cs : Array Value) : Bx (w.alloc (.cells cs T)) w.heap.size T cs := heap_alloc_new w _
theorem Bx.new2 {w : World} {b : Nat} {T : TypeId} {cs : Array Value} (h : w.heap.size = b) : Bx (w.alloc (.cells cs T)) b T cs := h ▸ Bx.new w T cs
theorem Bx.lt (h : Bx w b T cs) : b < w.heap.size := lt_of_some h
theorem Bx.cell (h : Bx w b T cs) (i : Nat) : w.cell? ⟨b, i, none⟩ = cs[i]? := cell_of_row w b i _ _ _ h
theorem Bx.free (h : Bx w b T cs) (i : Nat) : w.frozen? ⟨b, i, none⟩ = false := by unfold Bx at h; simp [World.frozen?, h]
theorem Bx.k3 {w : World} {b T : Nat} {a0 a1 a2 : Value} (h : Bx w b T #[a0, a1, a2]) : w.cell? ⟨b, 0, none⟩ = some a0 ∧ w.cell? ⟨b, 1, none⟩ = some a1 ∧ w.cell? ⟨b, 2, none⟩ = some a2 := ⟨h.cell 0, h.cell 1, h.cell 2⟩
theorem Bx.f3 {w : World} {b T : Nat} {a0 a1 a2 : Value} (h : Bx w b T #[a0, a1, a2]) : w.frozen? ⟨b, 0, none⟩ = false ∧ w.frozen? ⟨b, 1, none⟩ = false ∧ w.frozen? ⟨b, 2, none⟩ = false := ⟨h.free 0, h.free 1, h.free 2⟩
theorem Bx.k4 {w : World} {b T : Nat} {a0 a1 a2 a3 : Value} (h : Bx w b T #[a0, a1, a2, a3]) : w.cell? ⟨b, 0, none⟩ = some a0 ∧ w.cell? ⟨b, 1, none⟩ = some a1 ∧ w.cell? ⟨b, 2, none⟩ = some a2 ∧ w.cell? ⟨b, 3, none⟩ = some a3 := ⟨h.cell 0, h.cell 1, h.cell 2, h.cell 3⟩
theorem Bx.f4 {w : World} {b T : Nat} {a0 a1 a2 a3 : Value} (h : Bx w b T #[a0, a1, a2, a3]) : w.frozen? ⟨b, 0, none⟩ = false ∧ w.frozen? ⟨b, 1, none⟩ = false ∧ w.frozen? ⟨b, 2, none⟩ = false ∧ w.frozen? ⟨b, 3, none⟩ = false := ⟨h.free 0, h.free 1, h.free 2, h.free 3⟩
theorem Bx.k7 {w : World} {b T : Nat} {a0 a1 a2 a3 a4 a5 a6 : Value} (h : Bx w b T #[a0, a1, a2, a3, a4, a5, a6]) : w.cell? ⟨b, 0, none⟩ = some a0 ∧ w.cell? ⟨b, 1, none⟩ = some a1 ∧ w.cell? ⟨b, 2, none⟩ = some a2 ∧ w.cell? ⟨b, 3, none⟩ = some a3 ∧ w.cell? ⟨b, 4, none⟩ = some a4 ∧ w.cell? ⟨b, 5, none⟩ = some a5 ∧ w.cell? ⟨b, 6, none⟩ = some a6 := ⟨h.cell 0, h.cell 1, h.cell 2, h.cell 3, h.cell 4, h.cell 5, h.cell 6⟩
theorem Bx.f7 {w : World} {b T : Nat} {a0 a1 a2 a3 a4 a5 a6 : Value} (h : Bx w b T #[a0, a1, a2, a3, a4, a5, a6]) : w.frozen? ⟨b, 0, none⟩ = false ∧ w.frozen? ⟨b, 1, none⟩ = false ∧ w.frozen? ⟨b, 2, none⟩ = false ∧ w.frozen? ⟨b, 3, none⟩ = false ∧ w.frozen? ⟨b, 4, none⟩ = false ∧ w.frozen? ⟨b, 5, none⟩ = false ∧ w.frozen? ⟨b, 6, none⟩ = false := ⟨h.free 0, h.free 1, h.free 2, h.free 3, h.free 4, h.free 5, h.free 6⟩
theorem Bx.k9 {w : World} {b T : Nat} {a0 a1 a2 a3 a4 a5 a6 a7 a8 : Value} (h : Bx w b T #[a0, a1, a2, a3, a4, a5, a6, a7, a8]) : w.cell? ⟨b, 0, none⟩ = some a0 ∧ w.cell? ⟨b, 1, none⟩ = some a1 ∧ w.cell? ⟨b, 2, none⟩ = some a2 ∧ w.cell? ⟨b, 3, none⟩ = some a3 ∧ w.cell? ⟨b, 4, none⟩ = some a4 ∧ w.cell? ⟨b, 5, none⟩ = some a5 ∧ w.cell? ⟨b, 6, none⟩ = some a6 ∧ w.cell? ⟨b, 7, none⟩ = some a7 ∧ w.cell? ⟨b, 8, none⟩ = some a8 := ⟨h.cell 0, h.cell 1, h.cell 2, h.cell 3, h.cell 4, h.cell 5, h.cell 6, h.cell 7, h.cell 8⟩
theorem Bx.f9 {w : World} {b T : Nat} {a0 a1 a2 a3 a4 a5 a6 a7 a8 : Value} (h : Bx w b T #[a0, a1, a2, a3, a4, a5, a6, a7, a8]) : w.frozen? ⟨b, 0, none⟩ = false ∧ w.frozen? ⟨b, 1, none⟩ = false ∧ w.frozen? ⟨b, 2, none⟩ = false ∧ w.frozen? ⟨b, 3, none⟩ = false ∧ w.frozen? ⟨b, 4, none⟩ = false ∧ w.frozen? ⟨b, 5, none⟩ = false ∧ w.frozen? ⟨b, 6, none⟩ = false ∧ w.frozen? ⟨b, 7, none⟩ = false ∧ w.frozen? ⟨b, 8, none⟩ = false := ⟨h.free 0, h.free 1, h.free 2, h.free 3, h.free 4, h.free 5, h.free 6, h.free 7, h.free 8⟩
theorem Bx.only (h : Bx w b T cs) (ho : Only g w w') (hb : b ≠ g) : Bx w' b T cs := (ho.block b (lt_of_some h) hb).trans h
theorem Bx.below (h : Bx w b T cs) (hb : Below w.heap.size w w') : Bx w' b T cs := (hb.block b (lt_of_some h)).trans h
theorem Bx.alloc (h : Bx w b T cs) (o : Obj) : Bx (w.alloc o) b T cs := h.below ((Below.refl _ w).alloc (Nat.le_refl _) o)
theorem Bx.set (h : Bx w b T cs) (i : Nat) (v : Value) : Bx (w.setCell ⟨b, i, none⟩ v) b T (cs.setIfInBounds i v) := heap_set h
theorem Bx.other (h : Bx w b T cs) {c i : Nat} {u : Value} (hb : b ≠ c) : Bx (w.setCell ⟨c, i, none⟩ u) b T cs := (Below.heap_setCell _ _ _ _ hb).trans h
theorem bx_ret (h : Bx w b T cs) {P : Program} {fn : Func} {q : Tmp} {ty : TypeId} {d : TypeDesc} (hf : fn.results = #[.cell q ty]) (tmps : Array Value) (hq : tmps.getD q undef = .pointer (some ⟨b, 0, none⟩))
  (hu : P.underlying ty = some d) (hd : (match d with | .struct _ | .array _ _ => true | _ => false) = true) (hi : (P.info? ty).map (·.size) = some cs.size) : (results fn tmps).run P w = .ok (.agg cs) w :=
 results_cell_one hf tmps w b T cs (0, 0) d hq h hu hd hi
theorem Prs.alloc (h : Prs w g E s) (o : Obj) : Prs (w.alloc o) g E s := h.below ((Below.refl w.heap.size w).alloc (Nat.le_refl _) o) h.lt
theorem Lies.set {S : Nat → Prop} {v : Value} {d : D} (h : Lies w S v d) {i : Nat} {u : Value} (hb : ¬ S b) : Lies (w.setCell ⟨b, i, none⟩ u) S v d :=
 h.keep (by simp [World.setCell]) fun k _ hS => Below.heap_setCell _ _ _ _ (by intro e; rw [e] at hS; exact hb hS)
theorem Lies.only {S : Nat → Prop} {v : Value} {d : D} (h : Lies w S v d) (ho : Only g w w') (hg : ¬ S g) : Lies w' S v d :=
 h.keep ho.size fun k hk hS => ho.block k hk (by intro e; rw [e] at hS; exact hg hS)
theorem Lies.belowT {S : Nat → Prop} {v : Value} {d : D} (h : Lies w S v d) (hb : Below w.heap.size w w') : Lies w' S v d := h.keep hb.size fun k hk _ => hb.block k hk
theorem Lies.from {a : Nat} {v : Value} {d : D} (h : Lies w (fun k => b ≤ k) v d) (hab : a ≤ b) : Lies w (fun k => a ≤ k) v d := h.mono fun _ _ hk => Nat.le_trans hab hk
end
/-- Behind a method whose answer is a struct. -/
def GotL (w : World) (g E : Nat) (s' : St) (ds : List D) (e : Ending) (w' : World) : Prop := ∃ cs, e = .returned (.agg cs) ∧ LiesL w' (fun k => w.heap.size ≤ k) cs.toList ds ∧ Prs w' g E s' ∧ Only g w w'

theorem joinB_len (sep : Bs) (m : Nat) : ∀ l : List Bs, (∀ x ∈ l, x.length ≤ m) → (joinB sep l).length ≤ l.length * (m + sep.length)
 | [], _ => by simp [joinB]
 | [a], h => by have := h a (by simp); simp [joinB]; omega
 | a :: b :: r, h => by
  have h1 := h a (by simp)
  have h2 := joinB_len sep m (b :: r) (fun x hx => h x (by simp [hx]))
  have e : (a :: b :: r).length * (m + sep.length) = (b :: r).length * (m + sep.length) + (m + sep.length) := by simp [Nat.add_mul]
  rw [e]
  simp only [joinB, List.length_append]
  omega
theorem joinB_join (sep : Bs) : ∀ l : List Bs, Go.Lib.join l sep = joinB sep l
 | [] => rfl
 | [a] => by rw [Go.Lib.join_one]; rfl
 | a :: b :: r => by
  have ih := joinB_join sep (b :: r)
  rw [Go.Lib.join_cons] at ih ⊢
  simp only [joinB, ← ih, Go.Lib.joinTail, List.map_cons, List.flatten_cons, List.append_assoc]
section
variable {w w' : World} {g E : Nat} {s : St}
/-- strings.Join of a list that lies in memory. -/
theorem join_any {S : Nat → Prop} {v : Value} (l : List Bs) (sep : Bs) (h : Lies w S v (dL l)) (hn : l.length ≤ 10000) (hl : (joinB sep l).length ≤ 100000000) :
  Calls Tryz.prog 207 #[v, .string (ofL sep)] w (Tells w (.string (ofL (joinB sep l)))) := by
 have hm : ∀ l : List Bs, (l.map ofL).map (·.data.toList) = l := fun l => by
  rw [List.map_map]
  induction l with
  | nil => rfl
  | cons a r ih => rw [List.map_cons, ih]; simp [ofL_data]
 unfold dL at h
 rw [fm1] at h
 generalize hd : D.s 1 (l.map dS) = d at h
 cases h with
 | c v hv => cases hd
 | nil z =>
  have : l = [] := by
   cases l with
   | nil => rfl
   | cons a r => simp at hd
  subst this
  refine (Go.Proofs.YtekpefcggikcbaaGreatDoor.Tryz.strings_Join_none none 0 (ofL sep) w).mono ?_
  rintro e w' ⟨rfl, rfl⟩
  exact ⟨rfl, Below.refl _ _⟩
 | e0 ad cap z =>
  have : l = [] := by
   cases l with
   | nil => rfl
   | cons a r => simp at hd
  subst this
  refine (Go.Proofs.YtekpefcggikcbaaGreatDoor.Tryz.strings_Join_none (some ad) cap (ofL sep) w).mono ?_
  rintro e w' ⟨rfl, rfl⟩
  exact ⟨rfl, Below.refl _ _⟩
 | sl b o n cap z us l' h1 h2 h3 h4 h5 h6 h7 =>
  simp only [D.s.injEq] at hd
  obtain ⟨rfl, rfl⟩ := hd
  have hn' : n = (l.map ofL).length := by simp at h4; simp [h4]
  subst hn'
  have hlen : ((l.map ofL).map (·.data.toList)) = l := hm l
  have hj : Go.Lib.join ((l.map ofL).map (·.data.toList)) (ofL sep).data.toList = joinB sep l := by rw [hlen, ofL_data, joinB_join]
  refine (Go.Proofs.YtekpefcggikcbaaGreatDoor.Tryz.strings_Join b o cap (l.map ofL) (ofL sep) w ?_ h2.lt (by simp; omega) h5 (by rw [hj]; omega)).mono ?_
  ·intro j x hx
   rw [List.getElem?_map] at hx
   cases hlj : l[j]? with
   | none => rw [hlj] at hx; cases hx
   | some y =>
    rw [hlj] at hx
    simp only [Option.map_some, Option.some.injEq] at hx
    subst hx
    have hlt := (List.getElem?_eq_some_iff.1 hlj).1
    have hlt2 : j < us.length := by rw [h3, List.length_map]; exact hlt
    have hu := List.getElem?_eq_getElem hlt2
    have hd := h7 j _ (dS y) hu (by rw [List.getElem?_map, hlj]; rfl)
    rw [h6 j _ hu, hd.cell_eq]
    rfl
  ·rintro e w' ⟨rfl, hb⟩
   rw [hj]
   exact ⟨rfl, hb⟩
end
/- Layer 10: the printer in memory: a strings.Builder embedded in a struct, and a depth. -/
open Go.RowKit

/-- w' is w, but for block g, for new blocks and for blocks of bytes from B on. -/
structure Pk (g B : Nat) (w w' : World) : Prop where
 os : w'.os = w.os
 tape : w'.tape = w.tape
 output : w'.output = w.output
 size : w.heap.size ≤ w'.heap.size
 block : ∀ k, k < w.heap.size → k ≠ g → (k < B ∨ ∀ cs fr, w.heap[k]? ≠ some (.cells cs 5 fr)) → w'.heap[k]? = w.heap[k]?
section
variable {g B : Nat} {w w' : World}
theorem Pk.refl (g B : Nat) (w : World) : Pk g B w w := ⟨rfl, rfl, rfl, Nat.le_refl _, fun _ _ _ _ => rfl⟩
theorem Pk.trans {a b c : World} (h : Pk g B a b) (k : Pk g B b c) : Pk g B a c :=
 ⟨k.os.trans h.os, k.tape.trans h.tape, k.output.trans h.output, Nat.le_trans h.size k.size, fun i hi hg hn => by
  have h1 := h.block i hi hg hn
  rw [k.block i (Nat.lt_of_lt_of_le hi h.size) hg (by rw [h1]; exact hn), h1]⟩
theorem Pk.below {a b c : World} (h : Pk g B a b) (hb : Below b.heap.size b c) : Pk g B a c := h.trans ⟨hb.os, hb.tape, hb.output, hb.size, fun k hk _ _ => hb.block k hk⟩
theorem Pk.alloc {a b : World} (h : Pk g B a b) (o : Obj) : Pk g B a (b.alloc o) := h.below ((Below.refl _ _).alloc (Nat.le_refl _) o)
theorem Pk.set {a b : World} (h : Pk g B a b) (i : Nat) (v : Value) : Pk g B a (b.setCell ⟨g, i, none⟩ v) :=
 h.trans ⟨rfl, rfl, rfl, by simp [World.setCell], fun k _ hk _ => Below.heap_setCell _ _ _ _ hk⟩
theorem Pk.frm {a b c : World} (h : Pk g B a b) (hf : Frm 5 B b c) : Pk g B a c := h.trans ⟨hf.os, hf.tape, hf.output, hf.size, fun k hk _ hn => hf.block k hk hn⟩
/-- The table of powers of ten lies in its block. -/
def Tb (w : World) : Prop := Lib.TabIs Tryz.prog w "internal/strconv.uint64pow10" .u64 Lib.pow10Tab
theorem gT_ex : ∃ n, Tryz.prog.globalNamed "internal/strconv.uint64pow10" = some n := Option.isSome_iff_exists.1 (by kernel_rfl)
noncomputable def gT : Nat := gT_ex.choose
theorem gT_is : Tryz.prog.globalNamed "internal/strconv.uint64pow10" = some gT := gT_ex.choose_spec
theorem Tb.keep (h : Tb w) (hb : w'.heap[gT]? = w.heap[gT]?) : Tb w' := by
 unfold Tb Lib.TabIs World.var? at h ⊢
 rw [gT_is] at h ⊢
 simp only [Option.bind_some] at h ⊢
 rw [hb]; exact h
theorem Tb.lt (h : Tb w) : gT < w.heap.size := by
 unfold Tb Lib.TabIs World.var? at h
 rw [gT_is] at h
 simp only [Option.bind_some] at h
 cases hq : w.heap[gT]? with
 | none => rw [hq] at h; cases h
 | some o => exact lt_of_some hq
theorem Tb.below (h : Tb w) (hb : Below w.heap.size w w') : Tb w' := h.keep (hb.block _ h.lt)
theorem Tb.pk (h : Tb w) (hg : gT < g) (hB : g < B) (hk : Pk g B w w') : Tb w' := h.keep (hk.block _ h.lt (by omega) (.inl (by omega)))
/-- The printer in block g: its depth d, what it has written: l. Its bytes lie from B on. -/
structure Pt (w : World) (B g d : Nat) (l : Bs) : Prop where
 blk : ∃ a v, (a = .pointer none ∨ a = .pointer (some ⟨g, 0, none⟩)) ∧ w.heap[g]? = some (.cells #[a, v, .int .i64 (d : Int)] 170 (0, 0)) ∧ w.ownsRow B 5 1 v l.length (Lib.byteCells l) ∧ (l = [] → v = .slice none 0 0)
 gB : g < B
 hB : B ≤ w.heap.size
 tb : Tb w
 gt : gT < g
theorem Pt.lt {d : Nat} {l : Bs} (h : Pt w B g d l) : g < w.heap.size := by obtain ⟨a, v, _, h1, _⟩ := h.blk; exact lt_of_some h1
theorem Pt.keep {d : Nat} {l : Bs} (h : Pt w B g d l) (hs : w.heap.size ≤ w'.heap.size) (hb : ∀ k, k < w.heap.size → (k ≤ g ∨ ∃ cs fr, w.heap[k]? = some (.cells cs 5 fr)) → w'.heap[k]? = w.heap[k]?) : Pt w' B g d l := by
 obtain ⟨a, v, h1, h2, h3, h4⟩ := h.blk
 refine ⟨⟨a, v, h1, (hb g (lt_of_some h2) (.inl (Nat.le_refl _))).trans h2, ⟨h3.1, ?_⟩, h4⟩, h.gB, Nat.le_trans h.hB hs, h.tb.keep (hb _ h.tb.lt (.inl (Nat.le_of_lt h.gt))), h.gt⟩
 rcases h3.2 with h5 | ⟨q, cap, cur, hv, hq, hh, hr⟩
 ·exact .inl h5
 ·exact .inr ⟨q, cap, cur, hv, hq, (hb q (lt_of_some hh) (.inr ⟨_, _, hh⟩)).trans hh, hr⟩
theorem Pt.below {d : Nat} {l : Bs} (h : Pt w B g d l) (hb : Below w.heap.size w w') : Pt w' B g d l := h.keep hb.size fun k hk _ => hb.block k hk
theorem Pt.alloc {d : Nat} {l : Bs} (h : Pt w B g d l) (o : Obj) : Pt (w.alloc o) B g d l := h.below ((Below.refl _ _).alloc (Nat.le_refl _) o)
theorem Pt.depth {d : Nat} {l : Bs} (h : Pt w B g d l) (d' : Nat) : Pt (w.setCell ⟨g, 2, none⟩ (.int .i64 (d' : Int))) B g d' l := by
 obtain ⟨a, v, h1, h2, h3, h4⟩ := h.blk
 refine ⟨⟨a, v, h1, ?_, ⟨h3.1, ?_⟩, h4⟩, h.gB, by simpa [World.setCell] using h.hB, h.tb.keep (Below.heap_setCell _ _ _ _ (by have := h.gt; show gT ≠ g; omega)), h.gt⟩
 ·rw [heap_set h2]; rfl
 ·rcases h3.2 with h5 | ⟨q, cap, cur, hv, hq, hh, hr⟩
  ·exact .inl h5
  ·exact .inr ⟨q, cap, cur, hv, hq, (Below.heap_setCell _ _ _ _ (by have := h.gB; show q ≠ g; omega)).trans hh, hr⟩
theorem size_bd : (Tryz.prog.info? 168).map (·.size) = some 2 := by kernel_rfl
theorem lies_pt : liesAt Tryz.prog Tryz.prog.depth 170 (3 / Tryz.prog.cellsOf 170) 0 168 1 = true := by kernel_rfl
def CkPost (B g d : Nat) (l : Bs) (w : World) (e : Ending) (w' : World) : Prop := e = .returned (.tuple #[]) ∧ (∃ v, w'.heap[g]? = some (.cells #[.pointer (some ⟨g, 0, none⟩), v, .int .i64 (d : Int)] 170 (0, 0)) ∧ w'.ownsRow B 5 1 v l.length (Lib.byteCells l) ∧ (l = [] → v = .slice none 0 0)) ∧ Pk g B w w' ∧ w'.heap.size = w.heap.size
set_option maxRecDepth 100000 in
set_option maxHeartbeats 1000000 in
theorem check_pt {d : Nat} {l : Bs} (h : Pt w B g d l) : Calls Tryz.prog 176 #[.pointer (some ⟨g, 0, none⟩)] w (CkPost B g d l w) := by
 obtain ⟨j, hj, hjs⟩ := Option.map_eq_some_iff.1 size_bd
 have hgB := h.gB
 obtain ⟨a, v, h1, h2, h3, h4⟩ := h.blk
 have c0 : w.cell? ⟨g, 0, none⟩ = some a := cell_of_row w g 0 _ _ _ h2
 have f0 : w.frozen? ⟨g, 0, none⟩ = false := by simp [World.frozen?, h2]
 have hsh : w.shape? g = some (170, 3) := by simp [World.shape?, h2]
 have H2 := Lib.hid h2
 have H3 := Lib.hid h3
 have H4 := Lib.hid h4
 clear h h2 h3 h4
 rcases h1 with rfl | rfl
 ·go_enter Tryz.func176, Tryz.ntmps176
  go_wp2
  rw [Lib.run_to_unsafe w ⟨g, 0, none⟩ Tryz.underlying166 Tryz.underlying263 hj (by rw [hjs]; decide) hsh (Nat.zero_lt_succ 2)]
  simp only [Result.andThen]
  rw [Oper.upon_value]
  go_wp2
  rw [run_callFunc_extern Tryz.func212 (by kernel_rfl) (by kernel_rfl) (by kernel_rfl) (e := Extern.AbiNoEscape.same) (by kernel_rfl)]
  rw [Lib.run_noEscape]
  simp only [Result.andThen]
  rw [Oper.upon_value]
  go_wp2
  rw [Lib.run_from_unsafe w ⟨g, 0, none⟩ Tryz.underlying263 Tryz.underlying166 hj hsh lies_pt]
  simp only [Result.andThen]
  rw [Oper.upon_value]
  go_wp2
  refine bodyPost_ret (v := .tuple #[]) (by simp [results, Tryz.results176, go_sem]) rfl ⟨rfl, ⟨v, by rw [heap_set H2.out]; rfl, ⟨H3.out.1, ?_⟩, H4.out⟩, (Pk.refl g B w).set 0 _, by simp [World.setCell]⟩
  rcases H3.out.2 with h5 | ⟨q, cap, cur, hv, hq, hh, hr⟩
  ·exact .inl h5
  ·exact .inr ⟨q, cap, cur, hv, hq, (Below.heap_setCell _ _ _ _ (by show q ≠ g; omega)).trans hh, hr⟩
 ·go_enter Tryz.func176, Tryz.ntmps176
  go_wp2
  rw [Lib.run_neq_ptr_same w _ Tryz.underlying166 hj]
  go_wp2
  exact bodyPost_ret (v := .tuple #[]) (by simp [results, Tryz.results176, go_sem]) rfl ⟨rfl, ⟨v, H2.out, H3.out, H4.out⟩, Pk.refl g B w, rfl⟩
end
/- Layer 10: WriteByte, WriteString and String of the printer. -/
open Go.RowKit

section
variable {g B d : Nat} {l : Bs} {w w' : World}
def PtGot (B g d : Nat) (l : Bs) (v : Value) (w : World) (e : Ending) (w' : World) : Prop := e = .returned v ∧ Pt w' B g d l ∧ Pk g B w w'
theorem type_pt : (170 : Nat) ≠ 5 := by decide
set_option maxRecDepth 100000 in
set_option maxHeartbeats 1000000 in
theorem writeByte_any (h : Pt w B g d l) (hl : l.length ≤ 1000000000) (c : UInt8) : Calls Tryz.prog 121 #[.pointer (some ⟨g, 0, none⟩), .int .u8 (c.toNat : Int)] w (PtGot B g d (l ++ [c]) .nilIface w) := by
 have H := Lib.hid h
 have hgB := h.gB
 have hBw := h.hB
 have HTB := Lib.hid h.tb
 have hgt := h.gt
 clear h
 go_enter Tryz.func121, Tryz.ntmps121
 go_wp2_with fail
 refine (check_pt H.out).mono ?_
 rintro e w1 ⟨rfl, ⟨v, hbk, hown, hnl⟩, hk1, hs1⟩
 have c0 := cell_of_row w1 g 0 _ _ _ hbk
 have c1 : w1.cell? ⟨g, 1, none⟩ = some v := cell_of_row w1 g 1 _ _ _ hbk
 have HOW := Lib.hid hown
 have HBK := Lib.hid hbk
 have HK1 := Lib.hid hk1
 have hB1 : B ≤ w1.heap.size := by omega
 have hlen2 : Room2 l.length := by unfold Room2; omega
 have HS1 := Lib.hid hs1
 clear hown hbk hk1 H c0 hs1 hnl
 go_wp2_with (at_builtin; refine app1 rfl _ _ 41 rfl 5 (.int .u8 0) info_u8 Tryz.underlying41 rfl B _ _ _ rfl HOW.out _ rfl rfl hlen2 hB1 ?_; intro v' w2 hown2 hf2; have HO2 := Lib.hid hown2; have HF2 := Lib.hid hf2; clear hown2 hf2; obtain ⟨q, cap, hq, hqB, -, -⟩ := own_shape HO2.out (by omega); subst hq; have hbk2 : w2.heap[g]? = some (.cells #[.pointer (some ⟨g, 0, none⟩), v, .int .i64 (d : Int)] 170 (0, 0)) := HF2.out.keeps HBK.out type_pt; have d1 := cell_of_row w2 g 1 _ _ _ hbk2; have f1 : w2.frozen? ⟨g, 1, none⟩ = false := (by simp [World.frozen?, hbk2]); have HBK2 := Lib.hid hbk2; clear hbk2)
 go_ret
 have HKK := Lib.hid ((HK1.out.frm HF2.out).set 1 (.slice (some ⟨q, 0, none⟩) (l.length + 1) cap))
 refine ⟨rfl, ⟨⟨.pointer (some ⟨g, 0, none⟩), _, .inr rfl, by rw [heap_set HBK2.out]; rfl, ?_, fun e => by simp at e⟩, hgB, ?_, HTB.out.pk hgt hgB HKK.out, hgt⟩, HKK.out⟩
 ·have hown3 := HO2.out
  have hne : g < q := by omega
  have e1 : (l ++ [c]).length = l.length + 1 := by simp
  have e2 : Lib.byteCells (l ++ [c]) = Lib.byteCells l ++ [.int .u8 (c.toNat : Int)] := by simp [Lib.byteCells]
  rw [e1, e2]
  refine ⟨hown3.1, .inr ?_⟩
  rcases hown3.2 with ⟨h5, _⟩ | ⟨q', cap', cur, hv, hq, hh, hr⟩
  ·cases h5
  ·simp only [Value.slice.injEq, Option.some.injEq, Addr.mk.injEq, and_true, true_and] at hv
   obtain ⟨rfl, rfl⟩ := hv
   exact ⟨q, cap, cur, rfl, hq, (Below.heap_setCell _ _ _ _ (by show q ≠ g; omega)).trans hh, hr⟩
 ·have := HF2.out.size; simp only [World.setCell, Array.size_modify]; omega
theorem own_set {w : World} {B e sz n : Nat} {v u : Value} {xs : List Value} {g i : Nat} (h : w.ownsRow B e sz v n xs) (hg : g < B) : (w.setCell ⟨g, i, none⟩ u).ownsRow B e sz v n xs := by
 refine ⟨h.1, ?_⟩
 rcases h.2 with h5 | ⟨q, cap, cur, hv, hq, hh, hr⟩
 ·exact .inl h5
 ·exact .inr ⟨q, cap, cur, hv, hq, (Below.heap_setCell _ _ _ _ (by show q ≠ g; omega)).trans hh, hr⟩
set_option maxRecDepth 100000 in
set_option maxHeartbeats 1000000 in
theorem writeString_any (h : Pt w B g d l) (hl : l.length ≤ 1000000000) (s : Bs) (hs : s.length ≤ 1000000000) : Calls Tryz.prog 206 #[.pointer (some ⟨g, 0, none⟩), .string (ofL s)] w (PtGot B g d (l ++ s) (.tuple #[.int .i64 (s.length : Int), .nilIface]) w) := by
 have H := Lib.hid h
 have hgB := h.gB
 have hBw := h.hB
 have HTB := Lib.hid h.tb
 have hgt := h.gt
 obtain ⟨y, hy⟩ : ∃ y, ofL s = y := ⟨_, rfl⟩
 have hyz : y.size = s.length := by rw [← hy, ofL_size]
 have hyc : Lib.strCells y = Lib.byteCells s := by rw [← hy]; simp [Lib.strCells, Lib.byteCells, ofL]
 have HYC := Lib.hid hyc
 rw [hy]
 clear h hy hyc
 obtain ⟨i0, hi, hz0, hz1, hz2⟩ := info_parts info_u8
 go_enter Tryz.func206, Tryz.ntmps206
 go_wp2_with fail
 refine (check_pt H.out).mono ?_
 rintro e w1 ⟨rfl, ⟨v, hbk, hown, hnl⟩, hk1, hs1⟩
 have c1 : w1.cell? ⟨g, 1, none⟩ = some v := cell_of_row w1 g 1 _ _ _ hbk
 have HOW := Lib.hid hown
 have HBK := Lib.hid hbk
 have HK1 := Lib.hid hk1
 have hB1 : B ≤ w1.heap.size := by omega
 have HN := Lib.hid hnl
 have HS1 := Lib.hid hs1
 clear hown hbk hk1 hs1 hnl
 have q1 : l.length + y.size ≤ maxLen := by unfold maxLen; omega
 have q2 : l.length + y.size ≤ 140737488355328 := by omega
 go_wp2_with (at_builtin; refine Lib.wpList_append_own_string _ rfl _ _ 41 9 rfl B 5 i0 Tryz.underlying41 Tryz.underlying9 hi hz0 hz1 hz2 _ _ _ rfl HOW.out y rfl q1 q2 hB1 ?_; intro v' w2 hown2 hgr2 hnn; have HO2 := Lib.hid hown2; have HF2 := Lib.hid (Frm.grown (e := 5) (B := B) HOW.out hgr2); have HNN := Lib.hid hnn; clear hown2 hgr2 hnn; obtain ⟨A, n', cap, hv'⟩ : ∃ A n' cap, v' = .slice A n' cap := (by rcases HO2.out.2 with ⟨h5, _⟩ | ⟨q, cap, cur, h5, _⟩; exact ⟨_, _, _, h5⟩; exact ⟨_, _, _, h5⟩); subst hv'; have hbk2 : w2.heap[g]? = some (.cells #[.pointer (some ⟨g, 0, none⟩), v, .int .i64 (d : Int)] 170 (0, 0)) := HF2.out.keeps HBK.out type_pt; have d1 := cell_of_row w2 g 1 _ _ _ hbk2; have f1 : w2.frozen? ⟨g, 1, none⟩ = false := (by simp [World.frozen?, hbk2]); have HBK2 := Lib.hid hbk2; clear hbk2)
 go_ret2
 have HKK := Lib.hid ((HK1.out.frm HF2.out).set 1 (.slice A n' cap))
 refine ⟨rfl, ⟨⟨.pointer (some ⟨g, 0, none⟩), _, .inr rfl, by rw [heap_set HBK2.out]; rfl, ?_, fun e => ?_⟩, hgB, ?_, HTB.out.pk hgt hgB HKK.out, hgt⟩, HKK.out⟩
 ·have h3 := HO2.out
  rw [HYC.out, hyz] at h3
  have e2 : Lib.byteCells (l ++ s) = Lib.byteCells l ++ Lib.byteCells s := by simp [Lib.byteCells]
  rw [List.length_append, e2]
  exact own_set h3 hgB
 ·rw [List.append_eq_nil_iff] at e
  exact HNN.out.2 ⟨HN.out e.1, by first | exact e.2 | (rw [hyz, e.2]; rfl)⟩
 ·have := HF2.out.size; simp only [World.setCell, Array.size_modify]; omega
theorem cells_u8 : Tryz.prog.cellsOf 5 = 1 := by kernel_rfl
set_option maxRecDepth 100000 in
set_option maxHeartbeats 2000000 in
theorem bstring_any (h : Pt w B g d l) : Calls Tryz.prog 93 #[.pointer (some ⟨g, 0, none⟩)] w (fun e w' => e = .returned (.string (ofL l)) ∧ Below B w w') := by
 have hBw := h.hB
 obtain ⟨a, v, -, h2, h3, h4⟩ := h.blk
 by_cases h0 : l = []
 ·obtain rfl := h4 h0
  subst h0
  have c1 : w.drew.cell? ⟨g, 1, none⟩ = some (.slice none 0 0) := cell_of_row w g 1 _ _ _ h2
  have hUS := Lib.run_unsafeString_none (P := Tryz.prog) w.drew 215 3 9 none
  have hSD : (Builtin.unsafeSliceData_ #[41] 215 #[.slice none 0 0]).run Tryz.prog w.drew = .ok (.pointer none) w.drew := rfl
  clear h h2 h3 h4
  go_enter Tryz.func93, Tryz.ntmps93
  go_wp2
  go_region
  all_goals (go_wp2; go_ret; exact ⟨rfl, (Below.refl B w).drew⟩)
 ·have hl0 : l.length ≠ 0 := by simpa using h0
  obtain ⟨q, cap, cur, rfl, hbg, hg, hnc, hcm, hcs, htake⟩ : ∃ q cap cur, v = .slice (some ⟨q, 0, none⟩) l.length cap ∧ B ≤ q ∧ w.heap[q]? = some (.cells cur 5 (0, 0)) ∧ l.length ≤ cap ∧ cap ≤ maxLen ∧ cur.size = cap * 1 ∧ cur.toList.take (l.length * 1) = Lib.byteCells l := by
   rcases h3.2 with ⟨_, hz⟩ | ⟨q, cap, cur, hv, r⟩
   ·exact absurd hz hl0
   ·exact ⟨q, cap, cur, hv, r⟩
  have c1 : w.drew.cell? ⟨g, 1, none⟩ = some (.slice (some ⟨q, 0, none⟩) l.length cap) := cell_of_row w g 1 _ _ _ h2
  have hSD : (Builtin.unsafeSliceData_ #[41] 215 #[.slice (some ⟨q, 0, none⟩) l.length cap]).run Tryz.prog w.drew = .ok (.pointer (some ⟨q, 0, none⟩)) w.drew := Lib.run_unsafeSliceData_row _ _ _ _ _ _ (by omega)
  have hUS : (Builtin.unsafeString_ #[215, 3] 9 #[.pointer (some ⟨q, 0, none⟩), .int .i64 l.length]).run Tryz.prog w.drew = .ok (.string ⟨l.toArray⟩) (w.drew.freeze ⟨q, 0, none⟩ l.length) := by
   refine Lib.run_unsafeString_row w.drew 215 3 9 5 Tryz.underlying215 cells_u8 q cur.size (by have hg' : w.drew.heap[q]? = some (.cells cur 5 (0, 0)) := hg; simp [World.shape?, hg']) l h0 (by omega) (by unfold maxLen at hcm; omega) ?_
   intro j x hx
   have := h3.cells (g := q) rfl j (.int .u8 x.toNat) (by simp [Lib.byteCells, hx])
   exact this
  clear h h2 h3 h4 h0 hl0 hg hnc hcm hcs htake
  go_enter Tryz.func93, Tryz.ntmps93
  go_wp2
  go_region
  all_goals (go_wp2; go_ret; exact ⟨rfl, Lib.below_freeze (Below.drew (Below.refl B w)) (p := ⟨q, 0, none⟩) hbg _⟩)
end
end Go.Proofs.YtekpefcggikcbaaGreatDoor
