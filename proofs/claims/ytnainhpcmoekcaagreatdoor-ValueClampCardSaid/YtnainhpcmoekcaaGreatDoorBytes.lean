/- Byte strings in memory: rows of the call's own, slices that are read, texts made of them. -/
import Derived.Test.YtnainhpcmoekcaaGreatDoorRows
import Derived.WalkKit
import Derived.WalkSpells
import Derived.WalkLawsBesides
import Derived.Deep.Draws
import Derived.Lib.Hide
import Derived.Laws.BytesArg
import Derived.Laws.AppendOwnNone
namespace Go.Proofs.YtnainhpcmoekcaaGreatDoor
open Go.RowKit

theorem info_u8 : (Tryz.prog.info? 5).map (fun i => (i.zero, i.size, i.bytes)) = some (some (.int .u8 0), 1, 1) := by kernel_rfl
def bv (c : Nat) : Value := .int .u8 (c : Int)
def Byt (xs : List Nat) : Prop := ∀ c ∈ xs, c < 256
def Room (len : Nat) : Prop := len ≤ 35184372088832
def Room2 (len : Nat) : Prop := len ≤ 140737488355000
def U64 (q : Nat) : Prop := q < 18446744073709551616
def I64 (n : Int) : Prop := -9223372036854775808 ≤ n ∧ n ≤ 9223372036854775807
theorem Room2.of {a b : Nat} (h : Room a) (hb : b ≤ 10000) : Room2 (a + b) := by unfold Room2; unfold Room at h; omega

theorem bv_one (l : List Nat) : ∀ u ∈ l.map bv, u.oneCell' = true := by
 intro u hu
 obtain ⟨c, _, rfl⟩ := List.mem_map.1 hu
 rfl
theorem u64_wraps (n : Int) (h0 : 0 ≤ n) (h1 : n < 18446744073709551616) : IntKind.u64.wrap n = n := by rw [IntKind.wrap_u64]; omega

theorem addr_add_block (a : Addr) (n : Nat) : (a.add n).block = a.block := by unfold Addr.add; split <;> rfl
theorem addr_add_add (a : Addr) (i j : Nat) : (a.add i).add j = a.add (i + j) := by
 unfold Addr.add
 by_cases hi : i = 0 <;> by_cases hj : j = 0 <;> simp [hi, hj, Nat.add_assoc]
theorem lt_of_some {w : World} {g : Nat} {o : Obj} (h : w.heap[g]? = some o) : g < w.heap.size := (Array.getElem?_eq_some_iff.1 h).1
theorem heap_set {w : World} {g : Nat} {v : Value} {i : Nat} {cs : Array Value} {t : TypeId} (h : w.heap[g]? = some (.cells cs t (0, 0))) : (w.setCell ⟨g, i, none⟩ v).heap[g]? = some (.cells (cs.setIfInBounds i v) t (0, 0)) := by
 simp [World.setCell, Array.getElem?_modify, h]

theorem heap_alloc_2 (w : World) (o p : Obj) : ((w.alloc o).alloc p).heap[w.heap.size]? = some o := (Below.heap_alloc _ _ _ (by simp)).trans (heap_alloc_new w _)
theorem heap_alloc_2' (w : World) (o p : Obj) : ((w.alloc o).alloc p).heap[w.heap.size + 1]? = some p := by
 have := heap_alloc_new (w.alloc o) p
 rwa [show (w.alloc o).heap.size = w.heap.size + 1 by simp] at this
theorem heap_alloc_3 (w : World) (o p q : Obj) : (((w.alloc o).alloc p).alloc q).heap[w.heap.size]? = some o ∧ (((w.alloc o).alloc p).alloc q).heap[w.heap.size + 1]? = some p ∧ (((w.alloc o).alloc p).alloc q).heap[w.heap.size + 2]? = some q := by
 have h := heap_alloc_new ((w.alloc o).alloc p) q
 rw [show ((w.alloc o).alloc p).heap.size = w.heap.size + 2 by simp] at h
 exact ⟨(Below.heap_alloc _ _ _ (by simp; omega)).trans (heap_alloc_2 w o p), (Below.heap_alloc _ _ _ (by simp)).trans (heap_alloc_2' w o p), h⟩
/-- w' is w, but for new blocks and for blocks of type e from B on. -/
structure Frm (e B : Nat) (w w' : World) : Prop where
 os : w'.os = w.os
 tape : w'.tape = w.tape
 output : w'.output = w.output
 size : w.heap.size ≤ w'.heap.size
 block : ∀ k, k < w.heap.size → (k < B ∨ ∀ cs fr, w.heap[k]? ≠ some (.cells cs e fr)) → w'.heap[k]? = w.heap[k]?
section
variable {e B : Nat} {w w' : World}
theorem Frm.refl (e B : Nat) (w : World) : Frm e B w w := ⟨rfl, rfl, rfl, Nat.le_refl _, fun _ _ _ => rfl⟩
theorem Frm.trans {a b c : World} (h : Frm e B a b) (k : Frm e B b c) : Frm e B a c :=
 ⟨k.os.trans h.os, k.tape.trans h.tape, k.output.trans h.output, Nat.le_trans h.size k.size, fun i hi hn => by
  have h1 := h.block i hi hn
  rw [k.block i (Nat.lt_of_lt_of_le hi h.size) (by rw [h1]; exact hn), h1]⟩
theorem Frm.grown {v : Value} {n : Nat} {xs : List Value} (hown : w.ownsRow B e 1 v n xs) (hg : w.grownBy w' v.ownBlock) : Frm e B w w' :=
 ⟨hg.os, hg.tape, hg.output, hg.size, fun k hk hn => hg.block k hk (by
  intro he
  rcases hown.2 with ⟨rfl, _⟩ | ⟨g, cap, cur, rfl, hb, hh, _⟩
  ·simp [Value.ownBlock] at he
  ·simp [Value.ownBlock] at he
   subst he
   rcases hn with hn | hn
   ·omega
   ·exact hn _ _ hh)⟩
theorem Frm.grown0 (hg : w.grownBy w' none) : Frm e B w w' := ⟨hg.os, hg.tape, hg.output, hg.size, fun k hk _ => hg.block k hk (by intro h; cases h)⟩
theorem Frm.alloc_ (w : World) (o : Obj) : Frm e B w (w.alloc o) := ⟨rfl, rfl, rfl, by simp, fun k hk _ => Below.heap_alloc w o k hk⟩
theorem Frm.alloc {a : World} (h : Frm e B a w) (o : Obj) : Frm e B a (w.alloc o) := h.trans (Frm.alloc_ w o)
theorem Frm.drewN {a : World} (h : Frm e B a w) (m : Nat) : Frm e B a (w.drewN m) := ⟨h.os, h.tape, h.output, h.size, h.block⟩
theorem Frm.mono {B' : Nat} (h : Frm e B w w') (hB : B' ≤ B) : Frm e B' w w' := ⟨h.os, h.tape, h.output, h.size, fun k hk hn => h.block k hk (hn.imp (by omega) id)⟩
theorem Frm.below (h : Frm e B w w') (hB : B ≤ w.heap.size) : Below B w w' := ⟨h.os, h.tape, h.output, h.size, fun k hk => h.block k (by omega) (.inl hk)⟩
/-- A block of another type stays. -/
theorem Frm.keeps {g t : Nat} {cs : Array Value} (h : Frm e B w w') (hb : w.heap[g]? = some (.cells cs t (0, 0))) (ht : t ≠ e) : w'.heap[g]? = some (.cells cs t (0, 0)) := by
 rw [h.block g (Array.getElem?_eq_some_iff.1 hb).1 (.inr fun cs' fr hc => by rw [hb] at hc; cases hc; exact ht rfl), hb]
end

/-- append(s, c) of one element c of one cell and one byte, s a row of the call's own: c lies in a new block first. -/
theorem app1 {P : Program} {w : World} {ops : Array Oper} {rest : List Oper} {o : Oper} {a : Act} {Q : Exit → Act → World → Prop} (hgd : o.guard = none) (s x : Operand) (t : TypeId)
  (ho : o.op = .call { callee := .builtin .append, args := #[s, x], argTypes := #[t, t] })
  (e : TypeId) (z : Value) (hinfo : (P.info? e).map (fun i => (i.zero, i.size, i.bytes)) = some (some z, 1, 1)) (ht : P.underlying t = some (.slice e)) (hzs : z.cells.size = 1)
  (B : Nat) (v : Value) (n : Nat) (xs : List Value) (hs : a.eval s = v) (hown : w.ownsRow B e 1 v n xs) (c : Value) (hx : a.eval x = .slice (some ⟨w.heap.size, 0, none⟩) 1 1) (h1 : c.oneCell' = true)
  (hr : Room2 n) (hB : B ≤ w.heap.size)
  (h : ∀ v' w', w'.ownsRow B e 1 v' (n + 1) (xs ++ [c]) → Frm e B w w' → wpList P ops Q rest (a.put o.dst v') w') : wpList P ops Q (o :: rest) a (w.alloc (.cells #[c] e)) := by
 obtain ⟨i0, hi, hz0, hz1, hz2⟩ := info_parts hinfo
 unfold Room2 at hr
 refine wpList_append_own _ hgd s x t ho B e i0 z 1 1 ht hi hz0 hz1 hz2 hzs (by decide) v n xs hs (hown.alloc _) ⟨w.heap.size, 0, none⟩ 1 1 [c] hx rfl ?_ ?_ ?_ ?_ ?_ ?_
 ·intro j u hj
  match j, hj with
  | 0, hj => simp at hj; subst hj; simp [Addr.add]
 ·intro u hu; simp at hu; subst hu; exact h1
 ·unfold maxLen; omega
 ·omega
 ·simp; omega
 ·intro v' w' hown' hg _
  exact h v' w' hown' ((Frm.alloc_ w _).trans (Frm.grown (hown.alloc _) hg))

/-- v is a slice that holds the bytes xs, in blocks that are there, or nil without any. -/
def Bsl (w : World) (v : Value) (xs : List Nat) : Prop :=
 (v = .slice none 0 0 ∧ xs = []) ∨ ∃ ad c, v = .slice (some ad) xs.length c ∧ xs.length ≤ c ∧ ∀ j b, xs[j]? = some b → w.cell? (ad.add j) = some (bv b)
theorem Bsl.of_own {w : World} {B : Nat} {v : Value} {xs : List Nat} {n : Nat} (h : w.ownsRow B 5 1 v n (xs.map bv)) : Bsl w v xs := by
 have hl : xs.length = n := by simpa using h.1
 have hcl := @World.ownsRow.cells _ _ _ _ _ _ _ h
 rcases h.2 with ⟨rfl, h0⟩ | ⟨g, cap, cur, rfl, _, _, hn, _⟩
 ·exact .inl ⟨rfl, List.eq_nil_of_length_eq_zero (by omega)⟩
 ·refine .inr ⟨⟨g, 0, none⟩, cap, by rw [hl], by omega, fun j b hj => ?_⟩
  have hcl := hcl (g := g) rfl j (bv b) (by simp [hj])
  exact hcl
theorem Bsl.row {w : World} {g : Nat} {cs : Array Value} {t : TypeId} {fr : Nat × Nat} (h : w.heap[g]? = some (.cells cs t fr)) (n : Nat) (xs : List Nat) (hn : xs.length = n) (hc : cs.toList = xs.map bv) : Bsl w (.slice (some ⟨g, 0, none⟩) n n) xs := by
 refine .inr ⟨⟨g, 0, none⟩, n, by rw [hn], by omega, fun j b hj => ?_⟩
 have e : (⟨g, 0, none⟩ : Addr).add j = ⟨g, j, none⟩ := by unfold Addr.add; split <;> simp_all
 rw [e, cell_of_row w g j _ _ _ h, ← Array.getElem?_toList, hc]
 simp [hj]
theorem Bsl.lit (w : World) (cs : Array Value) (n : Nat) (xs : List Nat) (hn : xs.length = n) (hc : cs.toList = xs.map bv) {fr : Nat × Nat} : Bsl (w.alloc (.cells cs 5 fr)) (.slice (some ⟨w.heap.size, 0, none⟩) n n) xs := by
 refine .inr ⟨⟨w.heap.size, 0, none⟩, n, by rw [hn], by omega, fun j b hj => ?_⟩
 have e : (⟨w.heap.size, 0, none⟩ : Addr).add j = ⟨w.heap.size, j, none⟩ := by unfold Addr.add; split <;> simp_all
 rw [e, cell_of_row _ w.heap.size j _ _ _ (heap_alloc_new w _), ← Array.getElem?_toList, hc]
 simp [hj]
theorem own_lit' (w : World) (cs : Array Value) (n g : Nat) (xs : List Value) (hn : xs.length = n) (hc : cs.toList = xs) (hm : n ≤ maxLen) (hg : g = w.heap.size) :
  (w.alloc (.cells cs 5)).ownsRow g 5 1 (.slice (some ⟨g, 0, none⟩) n n) n xs := by
 subst hg
 refine ⟨by simpa using hn, .inr ⟨w.heap.size, n, cs, rfl, Nat.le_refl _, heap_alloc_new w _, Nat.le_refl _, hm, ?_, ?_⟩⟩
 ·rw [← Array.length_toList, hc, hn]; simp
 ·rw [hc, ← hn]; simp
theorem own_lit (w : World) (cs : Array Value) (n : Nat) (xs : List Value) (hn : xs.length = n) (hc : cs.toList = xs) (hm : n ≤ maxLen) :
  (w.alloc (.cells cs 5)).ownsRow w.heap.size 5 1 (.slice (some ⟨w.heap.size, 0, none⟩) n n) n xs := own_lit' w cs n _ xs hn hc hm rfl
/-- An own row that is not empty has an address. -/
theorem own_shape {w : World} {B e : Nat} {v : Value} {n : Nat} {xs : List Value} (h : w.ownsRow B e 1 v n xs) (hn : 1 ≤ n) : ∃ g cap, v = .slice (some ⟨g, 0, none⟩) n cap ∧ B ≤ g ∧ g < w.heap.size ∧ n ≤ cap := by
 rcases h.2 with ⟨_, h0⟩ | ⟨g, cap, cur, rfl, hb, hh, hc, _⟩
 ·omega
 ·exact ⟨g, cap, rfl, hb, lt_of_some hh, hc⟩
theorem Bsl.below {w w' : World} {v : Value} {xs : List Nat} (h : Bsl w v xs) (hb : Below w.heap.size w w') : Bsl w' v xs := by
 rcases h with h | ⟨ad, c, hv, hc, hcell⟩
 ·exact .inl h
 ·refine .inr ⟨ad, c, hv, hc, fun j b hj => ?_⟩
  have h1 := hcell j b hj
  rw [hb.cell (World.block_lt_of_cell? _ _ h1), h1]
theorem Bsl.addr {w : World} {A : Option Addr} {n c : Nat} {xs : List Nat} (h : Bsl w (.slice A n c) xs) (hn : 1 ≤ xs.length) : ∃ ad, A = some ad ∧ ∀ j b, xs[j]? = .some b → w.cell? (ad.add j) = .some (bv b) := by
 rcases h with ⟨_, h0⟩ | ⟨ad, c', h, _, hc⟩
 ·rw [h0] at hn; simp at hn
 ·simp only [Value.slice.injEq] at h
  exact ⟨ad, h.1, hc⟩
theorem Bsl.cap {w : World} {ad : Addr} {n c : Nat} {xs : List Nat} (h : Bsl w (.slice (.some ad) n c) xs) : n ≤ c ∧ n = xs.length := by
 rcases h with ⟨h, _⟩ | ⟨ad', c', h, h2, hc⟩
 ·cases h
 ·simp only [Value.slice.injEq] at h
  omega
/-- s[:m] of a slice that holds p ++ t, p of length m. -/
theorem Bsl.front {w : World} {ad : Addr} {n m c : Nat} {p t : List Nat} (h : Bsl w (.slice (.some ad) n c) (p ++ t)) (hm : p.length = m) : Bsl w (.slice (.some ad) m c) p := by
 rcases h with ⟨h, _⟩ | ⟨ad', c', h, h2, hc⟩
 ·cases h
 ·simp only [Value.slice.injEq, Option.some.injEq] at h
  obtain ⟨rfl, h3, rfl⟩ := h
  rw [List.length_append] at h2
  exact .inr ⟨ad, c, by rw [hm], by omega, fun j b hj => hc j b (by rw [List.getElem?_append_left (List.getElem?_eq_some_iff.1 hj).1]; exact hj)⟩
/-- s[m:] of a slice that holds p ++ t, p of length m. -/
theorem Bsl.rear {w : World} {ad : Addr} {n m k c : Nat} {p t : List Nat} (h : Bsl w (.slice (.some ad) n c) (p ++ t)) (hm : p.length = m) (hk : t.length = k) : Bsl w (.slice (.some (ad.add m)) k (c - m)) t := by
 rcases h with ⟨h, _⟩ | ⟨ad', c', h, h2, hc⟩
 ·cases h
 ·simp only [Value.slice.injEq, Option.some.injEq] at h
  obtain ⟨rfl, h3, rfl⟩ := h
  rw [List.length_append] at h2
  refine .inr ⟨ad.add m, c - m, by rw [hk], by omega, fun j b hj => ?_⟩
  rw [addr_add_add]
  exact hc _ b (by rw [← hm, List.getElem?_append_right (by omega), show p.length + j - p.length = j by omega]; exact hj)
theorem Bsl.drewN {w : World} {v : Value} {xs : List Nat} (h : Bsl w v xs) (n : Nat) : Bsl (w.drewN n) v xs := h
theorem Bsl.alloc {w : World} {v : Value} {xs : List Nat} (h : Bsl w v xs) (o : Obj) : Bsl (w.alloc o) v xs := h.below ((Below.refl _ _).alloc (Nat.le_refl _) _)

/-- append(s, x...) of bytes x that can be read, s a row of the call's own. -/
theorem appB {P : Program} {w : World} {ops : Array Oper} {rest : List Oper} {o : Oper} {a : Act} {Q : Exit → Act → World → Prop} (hgd : o.guard = none) (s x : Operand) (t : TypeId)
  (ho : o.op = .call { callee := .builtin .append, args := #[s, x], argTypes := #[t, t] })
  (hinfo : (P.info? 5).map (fun i => (i.zero, i.size, i.bytes)) = some (some (.int .u8 0), 1, 1)) (ht : P.underlying t = some (.slice 5))
  (B : Nat) (v : Value) (n : Nat) (xs : List Value) (hs : a.eval s = v) (hown : w.ownsRow B 5 1 v n xs) (u : Value) (ys : List Nat) (hx : a.eval x = u) (hb : Bsl w u ys)
  (hr : Room2 (n + ys.length)) (hB : B ≤ w.heap.size)
  (h : ∀ v' w', w'.ownsRow B 5 1 v' (n + ys.length) (xs ++ ys.map bv) → Frm 5 B w w' → wpList P ops Q rest (a.put o.dst v') w') : wpList P ops Q (o :: rest) a w := by
 obtain ⟨i0, hi, hz0, hz1, hz2⟩ := info_parts hinfo
 unfold Room2 at hr
 rcases hb with ⟨rfl, rfl⟩ | ⟨ad, c, rfl, hc, hcell⟩
 ·refine wpList_append_own_none hgd s x t ho B 5 i0 1 ht hi v n xs hs hown hx ?_
  exact h v w (by simpa using hown) (Frm.refl _ _ _)
 ·refine wpList_append_own _ hgd s x t ho B 5 i0 (.int .u8 0) 1 1 ht hi hz0 hz1 hz2 rfl (by decide) v n xs hs hown ad ys.length c (ys.map bv) hx (by simp) ?_ (bv_one ys) (by unfold maxLen; omega) (by omega) hB ?_
  ·intro j u hj
   rw [List.getElem?_map] at hj
   cases hjx : ys[j]? with
   | none => rw [hjx] at hj; cases hj
   | some b => rw [hjx] at hj; cases hj; exact hcell j b hjx
  ·intro v' w' hown' hg _
   exact h v' w' hown' (Frm.grown hown hg)

/-- An operation whose guard says yes is one without a guard. -/
theorem wpList_wanted {P : Program} {w : World} {ops : Array Oper} {rest : List Oper} {o : Oper} {a : Act} {Q : Exit → Act → World → Prop} (hw : Region.wanted o (yielded ops a.tmps) = true)
  (h : wpList P ops Q ({ o with guard := none } :: rest) a w) : wpList P ops Q (o :: rest) a w := by
 have e : ({ o with guard := none } : Oper).wp P a w (wpList P ops Q rest) Q ∨ (({ o with guard := none } : Oper).asks P a w ∧ LetsOut Q) := by
  unfold wpList at h
  rwa [if_pos (by simp [Region.wanted])] at h
 unfold wpList
 rw [if_pos hw]
 exact e
/-- The same behind a guard that says yes. -/
theorem appG {P : Program} {w : World} {ops : Array Oper} {rest : List Oper} {o : Oper} {a : Act} {Q : Exit → Act → World → Prop} (hw : Region.wanted o (yielded ops a.tmps) = true) (s x : Operand) (t : TypeId)
  (ho : o.op = .call { callee := .builtin .append, args := #[s, x], argTypes := #[t, t] })
  (hinfo : (P.info? 5).map (fun i => (i.zero, i.size, i.bytes)) = some (some (.int .u8 0), 1, 1)) (ht : P.underlying t = some (.slice 5))
  (B : Nat) (v : Value) (n : Nat) (xs : List Value) (hs : a.eval s = v) (hown : w.ownsRow B 5 1 v n xs) (u : Value) (ys : List Nat) (hx : a.eval x = u) (hb : Bsl w u ys)
  (hr : Room2 (n + ys.length)) (hB : B ≤ w.heap.size)
  (h : ∀ v' w', w'.ownsRow B 5 1 v' (n + ys.length) (xs ++ ys.map bv) → Frm 5 B w w' → wpList P ops Q rest (a.put o.dst v') w') : wpList P ops Q (o :: rest) a w :=
 wpList_wanted hw (appB rfl s x t ho hinfo ht B v n xs hs hown u ys hx hb hr hB h)

def strOf (xs : List Nat) : ByteArray := ⟨(xs.map UInt8.ofNat).toArray⟩
theorem strOf_inj {xs ys : List Nat} (hx : Byt xs) (hy : Byt ys) (h : strOf xs = strOf ys) : xs = ys := by
 have h1 : xs.map UInt8.ofNat = ys.map UInt8.ofNat := by
  have := congrArg (fun b => b.data.toList) h
  simpa [strOf] using this
 have h2 := congrArg (List.map UInt8.toNat) h1
 simp only [List.map_map] at h2
 have e : ∀ l : List Nat, Byt l → l.map (UInt8.toNat ∘ UInt8.ofNat) = l := by
  intro l hl
  conv => rhs; rw [← List.map_id l]
  apply List.map_congr_left
  intro a ha
  have := hl a ha
  simp [Nat.mod_eq_of_lt this]
 rwa [e xs hx, e ys hy] at h2
/-- Two texts made of bytes are equal exactly if the bytes are. -/
theorem strOf_beq {xs ys : List Nat} (b1 : Byt xs) (b2 : Byt ys) : ((strOf xs).toList == (strOf ys).toList) = decide (xs = ys) := by
 rw [Bool.eq_iff_iff, beq_iff_eq, decide_eq_true_iff]
 constructor
 ·intro h
  refine strOf_inj b1 b2 ?_
  apply ByteArray.ext
  apply Array.toList_inj.1
  simpa [ByteArray.toList_eq] using h
 ·intro h; rw [h]

section
variable {P : Program} (w : World)
theorem run_str (src e dst : TypeId) (hs : P.underlying src = some (.slice e)) (he : P.underlying e = some (.int .u8)) (hd : P.underlying dst = some .string) (v : Value) (xs : List Nat) (h : Bsl w v xs) :
  (convert src dst v).run P w = .ok (.string (strOf xs)) w := by
 rcases h with ⟨rfl, rfl⟩ | ⟨ad, c, rfl, _, hc⟩
 ·exact run_convert_bytes_nil w src e hs he 0 0 dst hd
 ·have hl : (loadCells ad xs.length).run P w = .ok ((xs.map (fun n : Nat => (n : Int))).map (Value.int .u8)).toArray w := by
   have := run_loadCells_list (P := P) w ad (xs.map bv) (fun j v hj => by
    rw [List.getElem?_map] at hj
    cases hx : xs[j]? with
    | none => rw [hx] at hj; cases hj
    | some b => rw [hx] at hj; cases hj; exact hc j b hx)
   have e : xs.map bv = xs.map fun x : Nat => Value.int .u8 (x : Int) := rfl
   rw [e] at this
   simpa [Function.comp_def] using this
  rw [run_convert_bytes_string w src dst e _ _ c hs he hd, run_bytesToString w _ _ c (xs.map (fun n : Nat => (n : Int))) hl, foldl_push_bytes]
  simp [strOf, ByteArray.empty, ByteArray.emptyWithCapacity, Function.comp_def]
  rfl
end
end Go.Proofs.YtnainhpcmoekcaaGreatDoor
