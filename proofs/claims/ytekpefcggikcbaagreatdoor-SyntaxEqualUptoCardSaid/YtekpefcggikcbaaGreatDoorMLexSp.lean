/- Layer 9: the contracts of the sorts of bytes, and of span. -/
import Derived.Test.YtekpefcggikcbaaGreatDoorRows
import Derived.WalkKit
import Derived.WalkSpells
import Derived.WalkLawsBesides
import Derived.Lib.Hide
import Derived.Deep.QuietTactic
import Derived.BigQuiet
import Derived.Test.YtekpefcggikcbaaGreatDoorLexM
import Derived.Shelf.Abstract
import Derived.Deep.Draws
import Derived.Laws.BytesArg
import Derived.Laws.AppendOwnNone
import Derived.IntWalk
namespace Go.Proofs.YtekpefcggikcbaaGreatDoor
/- Layer 9: the contracts of the sorts of bytes, and of span. -/
open Go.RowKit

def BoolIs (b : Bool) (w : World) (e : Ending) (w' : World) : Prop := e = .returned (.bool b) ∧ w = w'
def ofL (l : List UInt8) : ByteArray := ⟨l.toArray⟩
theorem BoolIs.mk {b b' : Bool} {w : World} (h : b' = b) : BoolIs b w (.returned (.bool b')) w := ⟨by rw [h], rfl⟩

theorem isLetter_any (n : Nat) (w : World) : Calls Tryz.prog 114 #[.int .u8 (n : Int)] w (BoolIs (cL n) w) := by
 go_enter Tryz.func114, Tryz.ntmps114
 go_wp2
 all_goals
  go_ret
  refine BoolIs.mk ?_
  rw [Bool.eq_iff_iff]
  simp [cL]
  omega
theorem isDigit_any (n : Nat) (w : World) : Calls Tryz.prog 116 #[.int .u8 (n : Int)] w (BoolIs (cD n) w) := by
 go_enter Tryz.func116, Tryz.ntmps116
 go_wp2
 all_goals
  go_ret
  refine BoolIs.mk ?_
  rw [Bool.eq_iff_iff]
  simp [cD]
  omega
theorem isBlank_any (n : Nat) (w : World) : Calls Tryz.prog 109 #[.int .u8 (n : Int)] w (BoolIs (cB n) w) := by
 go_enter Tryz.func109, Tryz.ntmps109
 go_wp2
 all_goals
  go_ret
  refine BoolIs.mk ?_
  rw [Bool.eq_iff_iff]
  simp [cB]
  omega
theorem isInLine_any (n : Nat) (w : World) : Calls Tryz.prog 112 #[.int .u8 (n : Int)] w (BoolIs (cI n) w) := by
 go_enter Tryz.func112, Tryz.ntmps112
 go_wp2
 all_goals
  go_ret
  refine BoolIs.mk ?_
  rw [Bool.eq_iff_iff]
  simp [cI]
  omega
theorem isEscaped_any (n : Nat) (w : World) : Calls Tryz.prog 122 #[.int .u8 (n : Int)] w (BoolIs (cE n) w) := by
 go_enter Tryz.func122, Tryz.ntmps122
 go_wp2
 all_goals
  go_ret
  refine BoolIs.mk ?_
  rw [Bool.eq_iff_iff]
  simp [cE]
  omega
theorem isNamePart_any (n : Nat) (w : World) : Calls Tryz.prog 172 #[.int .u8 (n : Int)] w (BoolIs (cN n) w) := by
 cases h1 : cL n with
 | true =>
  have H : Hid (cN n = true) := by simp [Hid, cN, h1]
  go_enter Tryz.func172, Tryz.ntmps172
  go_wp2_with (go_at_call 114; refine (isLetter_any _ _).mono ?_; rintro e w' ⟨rfl, rfl⟩)
  all_goals
   go_ret
   exact BoolIs.mk H.out.symm
 | false =>
  cases h2 : cD n with
  | true =>
   have H : Hid (cN n = true) := by simp [Hid, cN, h1, h2]
   go_enter Tryz.func172, Tryz.ntmps172
   go_wp2_with (first | (go_at_call 114; refine (isLetter_any _ _).mono ?_; rintro e w' ⟨rfl, rfl⟩) | (go_at_call 116; refine (isDigit_any _ _).mono ?_; rintro e w' ⟨rfl, rfl⟩))
   all_goals
    go_ret
    exact BoolIs.mk H.out.symm
  | false =>
   have H : Hid (cN n = decide (n = 95)) := by simp [Hid, cN, h1, h2]
   go_enter Tryz.func172, Tryz.ntmps172
   go_wp2_with (first | (go_at_call 114; refine (isLetter_any _ _).mono ?_; rintro e w' ⟨rfl, rfl⟩) | (go_at_call 116; refine (isDigit_any _ _).mono ?_; rintro e w' ⟨rfl, rfl⟩))
   all_goals
    go_ret
    refine BoolIs.mk ?_
    rw [H.out, Bool.eq_iff_iff]
    simp
    omega

/-- A function value that answers whether a byte is of a sort. -/
def IsSort (f : Nat) (p : Nat → Bool) : Prop := ∀ (n : Nat) (w : World), Calls Tryz.prog f #[.int .u8 (n : Int)] w (BoolIs (p n) w)
def SpnRel (s : ByteArray) (p : Nat → Bool) (v : Value) : Prop := ∃ k : Nat, k ≤ s.size ∧ v = .int .i64 k ∧ ∀ (j : Nat) (c : UInt8), j < k → s.data.toList[j]? = some c → p c.toNat = true
def SpnPost (s : ByteArray) (p : Nat → Bool) (w : World) (e : Ending) (w' : World) : Prop := e = .returned (.int .i64 (spn p s.data.toList : Nat)) ∧ w = w'
theorem SpnPost.mk {s : ByteArray} {p : Nat → Bool} {w : World} {k : Nat} (hk : k ≤ s.size) (h1 : ∀ (j : Nat) (c : UInt8), j < k → s.data.toList[j]? = some c → p c.toNat = true) (h2 : ∀ c, s.data.toList[k]? = some c → p c.toNat = false) :
  SpnPost s p w (.returned (.int .i64 (k : Nat))) w := by
 refine ⟨?_, rfl⟩
 rw [spn_eq (l := s.data.toList) (k := k) (by simpa using hk) h1 h2]
theorem ba_get (s : ByteArray) (k : Nat) (h : k < s.size) : s.data.toList[k]? = some s[k] := by
 rw [Array.getElem?_toList]
 exact Array.getElem?_eq_getElem h
/- Layer 9: the contract of span. -/
open Go.RowKit

set_option maxHeartbeats 400000 in
theorem span_any (f : Nat) (p : Nat → Bool) (hf : IsSort f p) (hE : ∀ args w, (callFunc f args).run Tryz.prog w = .ok (.enter f args) w) (s : ByteArray) (w : World) (hs : s.size ≤ 140737488351232) :
  Calls Tryz.prog 171 #[.string s, .func (.func f) #[] #[]] w (SpnPost s p w) := by
 have HF : Hid (∀ (n : Nat) (w : World), Calls Tryz.prog f #[.int .u8 (n : Int)] w (BoolIs (p n) w)) := hf
 clear hf
 go_enter Tryz.func171, Tryz.ntmps171
 go_wp2
 go_loop [5] (SpnRel s p) (fun i => s.size - (intOf i).toNat)
 case atStart => exact ⟨0, by omega, rfl, by omega⟩
 case round =>
  obtain ⟨k, hk, rfl, hp⟩ := hrel
  have HP := Lib.hid hp; clear hp
  by_cases hlt : k < s.size
  ·have hg := Lib.hid (ba_get s k hlt)
   cases hpc : p s[k].toNat with
   | true =>
    have Hpc := Lib.hid hpc; clear hpc
    go_wp2_with ((with_reducible refine (HF.out _ _).mono ?_); rintro e w' ⟨rfl, rfl⟩; rw [Hpc.out])
    go_round
    case rel =>
     refine ⟨k + 1, by omega, by go_num, fun j c hj hc => ?_⟩
     by_cases e : j = k
     ·subst e
      rw [hg.out] at hc; cases hc
      exact Hpc.out
     ·exact HP.out j c (by omega) hc
    case measure => simp [intOf]; omega
   | false =>
    have Hpc := Lib.hid hpc; clear hpc
    go_wp2_with ((with_reducible refine (HF.out _ _).mono ?_); rintro e w' ⟨rfl, rfl⟩; rw [Hpc.out])
    go_ret
    refine SpnPost.mk hk HP.out fun c hc => ?_
    rw [hg.out] at hc; cases hc
    exact Hpc.out
  ·go_wp2
   go_ret
   refine SpnPost.mk hk HP.out fun c hc => ?_
   have : s.data.toList[k]? = none := List.getElem?_eq_none (by simp; exact Nat.le_of_not_lt hlt)
   rw [this] at hc; cases hc
theorem ent_namePart (args : Array Value) (w : World) : (callFunc 172 args).run Tryz.prog w = .ok (.enter 172 args) w := enters_of Tryz.func172 (by kernel_rfl) rfl args w
theorem ent_blank (args : Array Value) (w : World) : (callFunc 109 args).run Tryz.prog w = .ok (.enter 109 args) w := enters_of Tryz.func109 (by kernel_rfl) rfl args w
theorem ent_inLine (args : Array Value) (w : World) : (callFunc 112 args).run Tryz.prog w = .ok (.enter 112 args) w := enters_of Tryz.func112 (by kernel_rfl) rfl args w
theorem ent_digit (args : Array Value) (w : World) : (callFunc 116 args).run Tryz.prog w = .ok (.enter 116 args) w := enters_of Tryz.func116 (by kernel_rfl) rfl args w
/- Byte strings in memory: rows of the call's own, slices that are read, texts made of them. -/
open Go.RowKit

theorem info_u8 : (Tryz.prog.info? 5).map (fun i => (i.zero, i.size, i.bytes)) = some (some (.int .u8 0), 1, 1) := by kernel_rfl
def bv (c : Nat) : Value := .int .u8 (c : Int)
def Byt (xs : List Nat) : Prop := ∀ c ∈ xs, c < 256
def Room (len : Nat) : Prop := len ≤ 35184372088832
def Room2 (len : Nat) : Prop := len ≤ 140737488355000
def U64 (q : Nat) : Prop := q < 18446744073709551616
def I64 (n : Int) : Prop := -9223372036854775808 ≤ n ∧ n ≤ 9223372036854775807
theorem Room2.of {a b : Nat} (h : Room a) (hb : b ≤ 10000) : Room2 (a + b) := by unfold Room2; unfold Room at h; omega

theorem bv_one (l : List Nat) : ∀ u ∈ l.map bv, u.oneCell' = true := by
 intro u hu
 obtain ⟨c, _, rfl⟩ := List.mem_map.1 hu
 rfl
theorem u64_wraps (n : Int) (h0 : 0 ≤ n) (h1 : n < 18446744073709551616) : IntKind.u64.wrap n = n := by rw [IntKind.wrap_u64]; omega

theorem addr_add_block (a : Addr) (n : Nat) : (a.add n).block = a.block := by unfold Addr.add; split <;> rfl
theorem addr_add_add (a : Addr) (i j : Nat) : (a.add i).add j = a.add (i + j) := by
 unfold Addr.add
 by_cases hi : i = 0 <;> by_cases hj : j = 0 <;> simp [hi, hj, Nat.add_assoc]
theorem lt_of_some {w : World} {g : Nat} {o : Obj} (h : w.heap[g]? = some o) : g < w.heap.size := (Array.getElem?_eq_some_iff.1 h).1
theorem heap_set {w : World} {g : Nat} {v : Value} {i : Nat} {cs : Array Value} {t : TypeId} (h : w.heap[g]? = some (.cells cs t (0, 0))) : (w.setCell ⟨g, i, none⟩ v).heap[g]? = some (.cells (cs.setIfInBounds i v) t (0, 0)) := by
 simp [World.setCell, Array.getElem?_modify, h]

theorem heap_alloc_2 (w : World) (o p : Obj) : ((w.alloc o).alloc p).heap[w.heap.size]? = some o := (Below.heap_alloc _ _ _ (by simp)).trans (heap_alloc_new w _)
theorem heap_alloc_2' (w : World) (o p : Obj) : ((w.alloc o).alloc p).heap[w.heap.size + 1]? = some p := by
 have := heap_alloc_new (w.alloc o) p
 rwa [show (w.alloc o).heap.size = w.heap.size + 1 by simp] at this
theorem heap_alloc_3 (w : World) (o p q : Obj) : (((w.alloc o).alloc p).alloc q).heap[w.heap.size]? = some o ∧ (((w.alloc o).alloc p).alloc q).heap[w.heap.size + 1]? = some p ∧ (((w.alloc o).alloc p).alloc q).heap[w.heap.size + 2]? = some q := by
 have h := heap_alloc_new ((w.alloc o).alloc p) q
 rw [show ((w.alloc o).alloc p).heap.size = w.heap.size + 2 by simp] at h
 exact ⟨(Below.heap_alloc _ _ _ (by simp; omega)).trans (heap_alloc_2 w o p), (Below.heap_alloc _ _ _ (by simp)).trans (heap_alloc_2' w o p), h⟩
/-- w' is w, but for new blocks and for blocks of type e from B on. -/
structure Frm (e B : Nat) (w w' : World) : Prop where
 os : w'.os = w.os
 tape : w'.tape = w.tape
 output : w'.output = w.output
 size : w.heap.size ≤ w'.heap.size
 block : ∀ k, k < w.heap.size → (k < B ∨ ∀ cs fr, w.heap[k]? ≠ some (.cells cs e fr)) → w'.heap[k]? = w.heap[k]?
section
variable {e B : Nat} {w w' : World}
theorem Frm.refl (e B : Nat) (w : World) : Frm e B w w := ⟨rfl, rfl, rfl, Nat.le_refl _, fun _ _ _ => rfl⟩
theorem Frm.trans {a b c : World} (h : Frm e B a b) (k : Frm e B b c) : Frm e B a c :=
 ⟨k.os.trans h.os, k.tape.trans h.tape, k.output.trans h.output, Nat.le_trans h.size k.size, fun i hi hn => by
  have h1 := h.block i hi hn
  rw [k.block i (Nat.lt_of_lt_of_le hi h.size) (by rw [h1]; exact hn), h1]⟩
theorem Frm.grown {v : Value} {n : Nat} {xs : List Value} (hown : w.ownsRow B e 1 v n xs) (hg : w.grownBy w' v.ownBlock) : Frm e B w w' :=
 ⟨hg.os, hg.tape, hg.output, hg.size, fun k hk hn => hg.block k hk (by
  intro he
  rcases hown.2 with ⟨rfl, _⟩ | ⟨g, cap, cur, rfl, hb, hh, _⟩
  ·simp [Value.ownBlock] at he
  ·simp [Value.ownBlock] at he
   subst he
   rcases hn with hn | hn
   ·omega
   ·exact hn _ _ hh)⟩
theorem Frm.grown0 (hg : w.grownBy w' none) : Frm e B w w' := ⟨hg.os, hg.tape, hg.output, hg.size, fun k hk _ => hg.block k hk (by intro h; cases h)⟩
theorem Frm.alloc_ (w : World) (o : Obj) : Frm e B w (w.alloc o) := ⟨rfl, rfl, rfl, by simp, fun k hk _ => Below.heap_alloc w o k hk⟩
theorem Frm.alloc {a : World} (h : Frm e B a w) (o : Obj) : Frm e B a (w.alloc o) := h.trans (Frm.alloc_ w o)
theorem Frm.drewN {a : World} (h : Frm e B a w) (m : Nat) : Frm e B a (w.drewN m) := ⟨h.os, h.tape, h.output, h.size, h.block⟩
theorem Frm.mono {B' : Nat} (h : Frm e B w w') (hB : B' ≤ B) : Frm e B' w w' := ⟨h.os, h.tape, h.output, h.size, fun k hk hn => h.block k hk (hn.imp (by omega) id)⟩
theorem Frm.below (h : Frm e B w w') (hB : B ≤ w.heap.size) : Below B w w' := ⟨h.os, h.tape, h.output, h.size, fun k hk => h.block k (by omega) (.inl hk)⟩
/-- A block of another type stays. -/
theorem Frm.keeps {g t : Nat} {cs : Array Value} (h : Frm e B w w') (hb : w.heap[g]? = some (.cells cs t (0, 0))) (ht : t ≠ e) : w'.heap[g]? = some (.cells cs t (0, 0)) := by
 rw [h.block g (Array.getElem?_eq_some_iff.1 hb).1 (.inr fun cs' fr hc => by rw [hb] at hc; cases hc; exact ht rfl), hb]
end

/-- append(s, c) of one element c of one cell and one byte, s a row of the call's own: c lies in a new block first. -/
theorem app1 {P : Program} {w : World} {ops : Array Oper} {rest : List Oper} {o : Oper} {a : Act} {Q : Exit → Act → World → Prop} (hgd : o.guard = none) (s x : Operand) (t : TypeId)
  (ho : o.op = .call { callee := .builtin .append, args := #[s, x], argTypes := #[t, t] })
  (e : TypeId) (z : Value) (hinfo : (P.info? e).map (fun i => (i.zero, i.size, i.bytes)) = some (some z, 1, 1)) (ht : P.underlying t = some (.slice e)) (hzs : z.cells.size = 1)
  (B : Nat) (v : Value) (n : Nat) (xs : List Value) (hs : a.eval s = v) (hown : w.ownsRow B e 1 v n xs) (c : Value) (hx : a.eval x = .slice (some ⟨w.heap.size, 0, none⟩) 1 1) (h1 : c.oneCell' = true)
  (hr : Room2 n) (hB : B ≤ w.heap.size)
  (h : ∀ v' w', w'.ownsRow B e 1 v' (n + 1) (xs ++ [c]) → Frm e B w w' → wpList P ops Q rest (a.put o.dst v') w') : wpList P ops Q (o :: rest) a (w.alloc (.cells #[c] e)) := by
 obtain ⟨i0, hi, hz0, hz1, hz2⟩ := info_parts hinfo
 unfold Room2 at hr
 refine wpList_append_own _ hgd s x t ho B e i0 z 1 1 ht hi hz0 hz1 hz2 hzs (by decide) v n xs hs (hown.alloc _) ⟨w.heap.size, 0, none⟩ 1 1 [c] hx rfl ?_ ?_ ?_ ?_ ?_ ?_
 ·intro j u hj
  match j, hj with
  | 0, hj => simp at hj; subst hj; simp [Addr.add]
 ·intro u hu; simp at hu; subst hu; exact h1
 ·unfold maxLen; omega
 ·omega
 ·simp; omega
 ·intro v' w' hown' hg _
  exact h v' w' hown' ((Frm.alloc_ w _).trans (Frm.grown (hown.alloc _) hg))

/-- v is a slice that holds the bytes xs, in blocks that are there, or nil without any. -/
def Bsl (w : World) (v : Value) (xs : List Nat) : Prop :=
 (v = .slice none 0 0 ∧ xs = []) ∨ ∃ ad c, v = .slice (some ad) xs.length c ∧ xs.length ≤ c ∧ ∀ j b, xs[j]? = some b → w.cell? (ad.add j) = some (bv b)
theorem Bsl.of_own {w : World} {B : Nat} {v : Value} {xs : List Nat} {n : Nat} (h : w.ownsRow B 5 1 v n (xs.map bv)) : Bsl w v xs := by
 have hl : xs.length = n := by simpa using h.1
 have hcl := @World.ownsRow.cells _ _ _ _ _ _ _ h
 rcases h.2 with ⟨rfl, h0⟩ | ⟨g, cap, cur, rfl, _, _, hn, _⟩
 ·exact .inl ⟨rfl, List.eq_nil_of_length_eq_zero (by omega)⟩
 ·refine .inr ⟨⟨g, 0, none⟩, cap, by rw [hl], by omega, fun j b hj => ?_⟩
  have hcl := hcl (g := g) rfl j (bv b) (by simp [hj])
  exact hcl
theorem Bsl.row {w : World} {g : Nat} {cs : Array Value} {t : TypeId} {fr : Nat × Nat} (h : w.heap[g]? = some (.cells cs t fr)) (n : Nat) (xs : List Nat) (hn : xs.length = n) (hc : cs.toList = xs.map bv) : Bsl w (.slice (some ⟨g, 0, none⟩) n n) xs := by
 refine .inr ⟨⟨g, 0, none⟩, n, by rw [hn], by omega, fun j b hj => ?_⟩
 have e : (⟨g, 0, none⟩ : Addr).add j = ⟨g, j, none⟩ := by unfold Addr.add; split <;> simp_all
 rw [e, cell_of_row w g j _ _ _ h, ← Array.getElem?_toList, hc]
 simp [hj]
theorem Bsl.lit (w : World) (cs : Array Value) (n : Nat) (xs : List Nat) (hn : xs.length = n) (hc : cs.toList = xs.map bv) {fr : Nat × Nat} : Bsl (w.alloc (.cells cs 5 fr)) (.slice (some ⟨w.heap.size, 0, none⟩) n n) xs := by
 refine .inr ⟨⟨w.heap.size, 0, none⟩, n, by rw [hn], by omega, fun j b hj => ?_⟩
 have e : (⟨w.heap.size, 0, none⟩ : Addr).add j = ⟨w.heap.size, j, none⟩ := by unfold Addr.add; split <;> simp_all
 rw [e, cell_of_row _ w.heap.size j _ _ _ (heap_alloc_new w _), ← Array.getElem?_toList, hc]
 simp [hj]
theorem own_lit' (w : World) (cs : Array Value) (n g : Nat) (xs : List Value) (hn : xs.length = n) (hc : cs.toList = xs) (hm : n ≤ maxLen) (hg : g = w.heap.size) :
  (w.alloc (.cells cs 5)).ownsRow g 5 1 (.slice (some ⟨g, 0, none⟩) n n) n xs := by
 subst hg
 refine ⟨by simpa using hn, .inr ⟨w.heap.size, n, cs, rfl, Nat.le_refl _, heap_alloc_new w _, Nat.le_refl _, hm, ?_, ?_⟩⟩
 ·rw [← Array.length_toList, hc, hn]; simp
 ·rw [hc, ← hn]; simp
theorem own_lit (w : World) (cs : Array Value) (n : Nat) (xs : List Value) (hn : xs.length = n) (hc : cs.toList = xs) (hm : n ≤ maxLen) :
  (w.alloc (.cells cs 5)).ownsRow w.heap.size 5 1 (.slice (some ⟨w.heap.size, 0, none⟩) n n) n xs := own_lit' w cs n _ xs hn hc hm rfl
/-- An own row that is not empty has an address. -/
theorem own_shape {w : World} {B e : Nat} {v : Value} {n : Nat} {xs : List Value} (h : w.ownsRow B e 1 v n xs) (hn : 1 ≤ n) : ∃ g cap, v = .slice (some ⟨g, 0, none⟩) n cap ∧ B ≤ g ∧ g < w.heap.size ∧ n ≤ cap := by
 rcases h.2 with ⟨_, h0⟩ | ⟨g, cap, cur, rfl, hb, hh, hc, _⟩
 ·omega
 ·exact ⟨g, cap, rfl, hb, lt_of_some hh, hc⟩
theorem Bsl.below {w w' : World} {v : Value} {xs : List Nat} (h : Bsl w v xs) (hb : Below w.heap.size w w') : Bsl w' v xs := by
 rcases h with h | ⟨ad, c, hv, hc, hcell⟩
 ·exact .inl h
 ·refine .inr ⟨ad, c, hv, hc, fun j b hj => ?_⟩
  have h1 := hcell j b hj
  rw [hb.cell (World.block_lt_of_cell? _ _ h1), h1]
theorem Bsl.addr {w : World} {A : Option Addr} {n c : Nat} {xs : List Nat} (h : Bsl w (.slice A n c) xs) (hn : 1 ≤ xs.length) : ∃ ad, A = some ad ∧ ∀ j b, xs[j]? = .some b → w.cell? (ad.add j) = .some (bv b) := by
 rcases h with ⟨_, h0⟩ | ⟨ad, c', h, _, hc⟩
 ·rw [h0] at hn; simp at hn
 ·simp only [Value.slice.injEq] at h
  exact ⟨ad, h.1, hc⟩
theorem Bsl.cap {w : World} {ad : Addr} {n c : Nat} {xs : List Nat} (h : Bsl w (.slice (.some ad) n c) xs) : n ≤ c ∧ n = xs.length := by
 rcases h with ⟨h, _⟩ | ⟨ad', c', h, h2, hc⟩
 ·cases h
 ·simp only [Value.slice.injEq] at h
  omega
/-- s[:m] of a slice that holds p ++ t, p of length m. -/
theorem Bsl.front {w : World} {ad : Addr} {n m c : Nat} {p t : List Nat} (h : Bsl w (.slice (.some ad) n c) (p ++ t)) (hm : p.length = m) : Bsl w (.slice (.some ad) m c) p := by
 rcases h with ⟨h, _⟩ | ⟨ad', c', h, h2, hc⟩
 ·cases h
 ·simp only [Value.slice.injEq, Option.some.injEq] at h
  obtain ⟨rfl, h3, rfl⟩ := h
  rw [List.length_append] at h2
  exact .inr ⟨ad, c, by rw [hm], by omega, fun j b hj => hc j b (by rw [List.getElem?_append_left (List.getElem?_eq_some_iff.1 hj).1]; exact hj)⟩
/-- s[m:] of a slice that holds p ++ t, p of length m. -/
theorem Bsl.rear {w : World} {ad : Addr} {n m k c : Nat} {p t : List Nat} (h : Bsl w (.slice (.some ad) n c) (p ++ t)) (hm : p.length = m) (hk : t.length = k) : Bsl w (.slice (.some (ad.add m)) k (c - m)) t := by
 rcases h with ⟨h, _⟩ | ⟨ad', c', h, h2, hc⟩
 ·cases h
 ·simp only [Value.slice.injEq, Option.some.injEq] at h
  obtain ⟨rfl, h3, rfl⟩ := h
  rw [List.length_append] at h2
  refine .inr ⟨ad.add m, c - m, by rw [hk], by omega, fun j b hj => ?_⟩
  rw [addr_add_add]
  exact hc _ b (by rw [← hm, List.getElem?_append_right (by omega), show p.length + j - p.length = j by omega]; exact hj)
theorem Bsl.drewN {w : World} {v : Value} {xs : List Nat} (h : Bsl w v xs) (n : Nat) : Bsl (w.drewN n) v xs := h
theorem Bsl.alloc {w : World} {v : Value} {xs : List Nat} (h : Bsl w v xs) (o : Obj) : Bsl (w.alloc o) v xs := h.below ((Below.refl _ _).alloc (Nat.le_refl _) _)

/-- append(s, x...) of bytes x that can be read, s a row of the call's own. -/
theorem appB {P : Program} {w : World} {ops : Array Oper} {rest : List Oper} {o : Oper} {a : Act} {Q : Exit → Act → World → Prop} (hgd : o.guard = none) (s x : Operand) (t : TypeId)
  (ho : o.op = .call { callee := .builtin .append, args := #[s, x], argTypes := #[t, t] })
  (hinfo : (P.info? 5).map (fun i => (i.zero, i.size, i.bytes)) = some (some (.int .u8 0), 1, 1)) (ht : P.underlying t = some (.slice 5))
  (B : Nat) (v : Value) (n : Nat) (xs : List Value) (hs : a.eval s = v) (hown : w.ownsRow B 5 1 v n xs) (u : Value) (ys : List Nat) (hx : a.eval x = u) (hb : Bsl w u ys)
  (hr : Room2 (n + ys.length)) (hB : B ≤ w.heap.size)
  (h : ∀ v' w', w'.ownsRow B 5 1 v' (n + ys.length) (xs ++ ys.map bv) → Frm 5 B w w' → wpList P ops Q rest (a.put o.dst v') w') : wpList P ops Q (o :: rest) a w := by
 obtain ⟨i0, hi, hz0, hz1, hz2⟩ := info_parts hinfo
 unfold Room2 at hr
 rcases hb with ⟨rfl, rfl⟩ | ⟨ad, c, rfl, hc, hcell⟩
 ·refine wpList_append_own_none hgd s x t ho B 5 i0 1 ht hi v n xs hs hown hx ?_
  exact h v w (by simpa using hown) (Frm.refl _ _ _)
 ·refine wpList_append_own _ hgd s x t ho B 5 i0 (.int .u8 0) 1 1 ht hi hz0 hz1 hz2 rfl (by decide) v n xs hs hown ad ys.length c (ys.map bv) hx (by simp) ?_ (bv_one ys) (by unfold maxLen; omega) (by omega) hB ?_
  ·intro j u hj
   rw [List.getElem?_map] at hj
   cases hjx : ys[j]? with
   | none => rw [hjx] at hj; cases hj
   | some b => rw [hjx] at hj; cases hj; exact hcell j b hjx
  ·intro v' w' hown' hg _
   exact h v' w' hown' (Frm.grown hown hg)

/-- An operation whose guard says yes is one without a guard. -/
theorem wpList_wanted {P : Program} {w : World} {ops : Array Oper} {rest : List Oper} {o : Oper} {a : Act} {Q : Exit → Act → World → Prop} (hw : Region.wanted o (yielded ops a.tmps) = true)
  (h : wpList P ops Q ({ o with guard := none } :: rest) a w) : wpList P ops Q (o :: rest) a w := by
 have e : ({ o with guard := none } : Oper).wp P a w (wpList P ops Q rest) Q ∨ (({ o with guard := none } : Oper).asks P a w ∧ LetsOut Q) := by
  unfold wpList at h
  rwa [if_pos (by simp [Region.wanted])] at h
 unfold wpList
 rw [if_pos hw]
 exact e
/-- The same behind a guard that says yes. -/
theorem appG {P : Program} {w : World} {ops : Array Oper} {rest : List Oper} {o : Oper} {a : Act} {Q : Exit → Act → World → Prop} (hw : Region.wanted o (yielded ops a.tmps) = true) (s x : Operand) (t : TypeId)
  (ho : o.op = .call { callee := .builtin .append, args := #[s, x], argTypes := #[t, t] })
  (hinfo : (P.info? 5).map (fun i => (i.zero, i.size, i.bytes)) = some (some (.int .u8 0), 1, 1)) (ht : P.underlying t = some (.slice 5))
  (B : Nat) (v : Value) (n : Nat) (xs : List Value) (hs : a.eval s = v) (hown : w.ownsRow B 5 1 v n xs) (u : Value) (ys : List Nat) (hx : a.eval x = u) (hb : Bsl w u ys)
  (hr : Room2 (n + ys.length)) (hB : B ≤ w.heap.size)
  (h : ∀ v' w', w'.ownsRow B 5 1 v' (n + ys.length) (xs ++ ys.map bv) → Frm 5 B w w' → wpList P ops Q rest (a.put o.dst v') w') : wpList P ops Q (o :: rest) a w :=
 wpList_wanted hw (appB rfl s x t ho hinfo ht B v n xs hs hown u ys hx hb hr hB h)

def strOf (xs : List Nat) : ByteArray := ⟨(xs.map UInt8.ofNat).toArray⟩
theorem strOf_inj {xs ys : List Nat} (hx : Byt xs) (hy : Byt ys) (h : strOf xs = strOf ys) : xs = ys := by
 have h1 : xs.map UInt8.ofNat = ys.map UInt8.ofNat := by
  have := congrArg (fun b => b.data.toList) h
  simpa [strOf] using this
 have h2 := congrArg (List.map UInt8.toNat) h1
 simp only [List.map_map] at h2
 have e : ∀ l : List Nat, Byt l → l.map (UInt8.toNat ∘ UInt8.ofNat) = l := by
  intro l hl
  conv => rhs; rw [← List.map_id l]
  apply List.map_congr_left
  intro a ha
  have := hl a ha
  simp [Nat.mod_eq_of_lt this]
 rwa [e xs hx, e ys hy] at h2
/-- Two texts made of bytes are equal exactly if the bytes are. -/
theorem strOf_beq {xs ys : List Nat} (b1 : Byt xs) (b2 : Byt ys) : ((strOf xs).toList == (strOf ys).toList) = decide (xs = ys) := by
 rw [Bool.eq_iff_iff, beq_iff_eq, decide_eq_true_iff]
 constructor
 ·intro h
  refine strOf_inj b1 b2 ?_
  apply ByteArray.ext
  apply Array.toList_inj.1
  simpa [ByteArray.toList_eq] using h
 ·intro h; rw [h]

section
variable {P : Program} (w : World)
theorem run_str (src e dst : TypeId) (hs : P.underlying src = some (.slice e)) (he : P.underlying e = some (.int .u8)) (hd : P.underlying dst = some .string) (v : Value) (xs : List Nat) (h : Bsl w v xs) :
  (convert src dst v).run P w = .ok (.string (strOf xs)) w := by
 rcases h with ⟨rfl, rfl⟩ | ⟨ad, c, rfl, _, hc⟩
 ·exact run_convert_bytes_nil w src e hs he 0 0 dst hd
 ·have hl : (loadCells ad xs.length).run P w = .ok ((xs.map (fun n : Nat => (n : Int))).map (Value.int .u8)).toArray w := by
   have := run_loadCells_list (P := P) w ad (xs.map bv) (fun j v hj => by
    rw [List.getElem?_map] at hj
    cases hx : xs[j]? with
    | none => rw [hx] at hj; cases hj
    | some b => rw [hx] at hj; cases hj; exact hc j b hx)
   have e : xs.map bv = xs.map fun x : Nat => Value.int .u8 (x : Int) := rfl
   rw [e] at this
   simpa [Function.comp_def] using this
  rw [run_convert_bytes_string w src dst e _ _ c hs he hd, run_bytesToString w _ _ c (xs.map (fun n : Nat => (n : Int))) hl, foldl_push_bytes]
  simp [strOf, ByteArray.empty, ByteArray.emptyWithCapacity, Function.comp_def]
  rfl
end
/- Layer 9: the scanner in memory; the contracts of its small methods. -/
open Go.RowKit

/-- w' is w with new blocks and with writes to block g alone. -/
structure Only (g : Nat) (w w' : World) : Prop where
 os : w'.os = w.os
 tape : w'.tape = w.tape
 output : w'.output = w.output
 size : w.heap.size ≤ w'.heap.size
 block : ∀ k, k < w.heap.size → k ≠ g → w'.heap[k]? = w.heap[k]?
section
variable {g : Nat} {w w' : World}
theorem Only.refl (g : Nat) (w : World) : Only g w w := ⟨rfl, rfl, rfl, Nat.le_refl _, fun _ _ _ => rfl⟩
theorem Only.trans {a b c : World} (h : Only g a b) (k : Only g b c) : Only g a c :=
 ⟨k.os.trans h.os, k.tape.trans h.tape, k.output.trans h.output, Nat.le_trans h.size k.size, fun i hi hn => (k.block i (Nat.lt_of_lt_of_le hi h.size) hn).trans (h.block i hi hn)⟩
theorem Only.drewN {a b : World} (h : Only g a b) (m : Nat) : Only g a (b.drewN m) := ⟨h.os, h.tape, h.output, h.size, h.block⟩
theorem Only.set {a b : World} (h : Only g a b) (i : Nat) (v : Value) : Only g a (b.setCell ⟨g, i, none⟩ v) :=
 h.trans ⟨rfl, rfl, rfl, by simp [World.setCell], fun k _ hn => Below.heap_setCell _ _ _ _ hn⟩
theorem Only.below {a b c : World} (h : Only g a b) (hb : Below b.heap.size b c) : Only g a c :=
 h.trans ⟨hb.os, hb.tape, hb.output, hb.size, fun k hk _ => hb.block k hk⟩
theorem Only.alloc {a b : World} (h : Only g a b) (o : Obj) : Only g a (b.alloc o) := h.below ((Below.refl _ _).alloc (Nat.le_refl _) o)
theorem Only.toBelow {B : Nat} (h : Only g w w') (hB : B ≤ g) (hw : B ≤ w.heap.size) : Below B w w' := ⟨h.os, h.tape, h.output, h.size, fun k hk => h.block k (by omega) (by omega)⟩
end

/-- A scanner: its block g, the source's bytes l, the offset k. -/
structure Scn (w : World) (g : Nat) (l : List UInt8) (k : Nat) : Prop where
 blk : w.heap[g]? = some (.cells #[.string (ofL l), .int .i64 (k : Int)] 119 (0, 0))
 off : k ≤ l.length
 room : l.length ≤ 8000
section
variable {w w' : World} {g k : Nat} {l : List UInt8}
theorem Scn.lt (h : Scn w g l k) : g < w.heap.size := lt_of_some h.blk
theorem Scn.cell (h : Scn w g l k) (i : Nat) : w.cell? ⟨g, i, none⟩ = (#[Value.string (ofL l), .int .i64 (k : Int)])[i]? := cell_of_row w g i _ _ _ h.blk
theorem Scn.free (h : Scn w g l k) (i : Nat) : w.frozen? ⟨g, i, none⟩ = false := by simp [World.frozen?, h.blk]
theorem Scn.drewN (h : Scn w g l k) (m : Nat) : Scn (w.drewN m) g l k := ⟨h.blk, h.off, h.room⟩
theorem Scn.go (h : Scn w g l k) (k' : Nat) (hk : k' ≤ l.length) : Scn (w.setCell ⟨g, 1, none⟩ (.int .i64 (k' : Int))) g l k' :=
 ⟨by rw [heap_set h.blk]; rfl, hk, h.room⟩
theorem Scn.keep (h : Scn w g l k) (hb : w'.heap[g]? = w.heap[g]?) : Scn w' g l k := ⟨hb.trans h.blk, h.off, h.room⟩
end
theorem ofL_size (l : List UInt8) : (ofL l).size = l.length := by simp [ofL, ByteArray.size]
theorem ofL_data (l : List UInt8) : (ofL l).data.toList = l := by simp [ofL]
theorem ofL_toList (l : List UInt8) : (ofL l).toList = l := by simp [ofL, ByteArray.toList_eq]
theorem ofL_inj {a b : List UInt8} (h : ofL a = ofL b) : a = b := by rw [← ofL_data a, h, ofL_data]
theorem ofL_of (s : ByteArray) : s = ofL s.data.toList := by simp [ofL]
theorem ofL_extract (l : List UInt8) (a b : Nat) : (ofL l).extract a b = ofL ((l.drop a).take (b - a)) := by
 apply ByteArray.ext
 simp [ofL, ByteArray.data_extract, List.extract_eq_take_drop]
theorem ofL_get (l : List UInt8) (k : Nat) (h : k < (ofL l).size) : (ofL l)[k] = l[k]'(by rwa [ofL_size] at h) := by
 simp [ofL, ByteArray.getElem_eq_getElem_data]
theorem nxt_at {l : List UInt8} {k : Nat} (h : k < l.length) : nxt (l.drop k) = l[k].toNat := by
 rw [nxt_drop, List.getElem?_eq_getElem h]
theorem nxt_end {l : List UInt8} {k : Nat} (h : l.length ≤ k) : nxt (l.drop k) = 0 := by
 rw [nxt_drop, List.getElem?_eq_none h]

section
variable {w : World} {g k : Nat} {l : List UInt8}
def Quiet (w : World) (v : Value) (e : Ending) (w' : World) : Prop := e = .returned v ∧ ∃ m, w' = w.drewN m
theorem ended_any (h : Scn w g l k) : Calls Tryz.prog 63 #[.pointer (some ⟨g, 0, none⟩)] w (Quiet w (.bool (decide (k = l.length)))) := by
 have c0 := h.cell 0
 have c1 := h.cell 1
 have hs := Lib.hid (ofL_size l)
 go_enter Tryz.func63, Tryz.ntmps63
 go_wp2
 go_quiet (fail)
 go_wp2
 go_ret
 refine ⟨?_, nq, rfl⟩
 have e : ((k : Int) == (l.length : Int)) = decide (k = l.length) := by rw [Bool.eq_iff_iff]; simp; omega
 rw [hs.out]
 show Ending.returned (.bool ((k : Int) == (l.length : Int))) = _
 rw [e]
theorem rest_any (h : Scn w g l k) : Calls Tryz.prog 111 #[.pointer (some ⟨g, 0, none⟩)] w (Quiet w (.string (ofL (l.drop k)))) := by
 have c0 := h.cell 0
 have c1 := h.cell 1
 have hs := Lib.hid (ofL_size l)
 have ho : k ≤ (ofL l).size := by rw [hs.out]; exact h.off
 have he := Lib.hid (ofL_extract l k (ofL l).size)
 go_enter Tryz.func111, Tryz.ntmps111
 go_wp2
 go_quiet (fail)
 go_wp2
 go_ret
 refine ⟨?_, nq, rfl⟩
 rw [he.out, hs.out, List.take_of_length_le (by simp)]
 rfl
theorem next_any (h : Scn w g l k) : Calls Tryz.prog 113 #[.pointer (some ⟨g, 0, none⟩)] w (Quiet w (.int .u8 (nxt (l.drop k) : Nat))) := by
 have c0 := h.cell 0
 have c1 := h.cell 1
 have hs := Lib.hid (ofL_size l)
 have ho := h.off
 have H := Lib.hid h; clear h
 by_cases hk : k = l.length
 ·have hd : decide (k = l.length) = true := by simpa using hk
  have hn := Lib.hid (nxt_end (l := l) (k := k) (by omega))
  clear hk
  go_enter Tryz.func113, Tryz.ntmps113
  go_wp2_with (go_at_call 63; refine (ended_any H.out).mono ?_; rintro e w' ⟨rfl, m, rfl⟩)
  go_ret
  exact ⟨by rw [hn.out]; rfl, m, rfl⟩
 ·have hd : decide (k = l.length) = false := by simpa using hk
  have hlt : k < (ofL l).size := by rw [hs.out]; omega
  have hlt2 : k < l.length := by omega
  have hn := Lib.hid (nxt_at (l := l) (k := k) hlt2)
  have hg := Lib.hid (ofL_get l k hlt)
  clear hk
  go_enter Tryz.func113, Tryz.ntmps113
  go_wp2_with (go_at_call 63; refine (ended_any H.out).mono ?_; rintro e w' ⟨rfl, m, rfl⟩)
  have d0 : (w.drewN m).cell? ⟨g, 0, none⟩ = some (.string (ofL l)) := c0
  have d1 : (w.drewN m).cell? ⟨g, 1, none⟩ = some (.int .i64 (k : Int)) := c1
  generalize hw1 : w.drewN m = w1 at *
  have HW := Lib.hid hw1; clear hw1 c0 c1
  go_quiet (fail)
  go_wp2
  go_ret
  refine ⟨by rw [hn.out, hg.out]; rfl, m + nq, ?_⟩
  rw [← HW.out]
  simp [World.drewN, Nat.add_assoc]

/-- Behind a method that reads on: the offset k', no other old block touched. -/
def ScnPost (w : World) (g : Nat) (l : List UInt8) (k' : Nat) (v : Value) (e : Ending) (w' : World) : Prop := e = .returned v ∧ Scn w' g l k' ∧ Only g w w'
set_option maxHeartbeats 400000 in
theorem take_any (f : Nat) (p : Nat → Bool) (hf : IsSort f p) (hE : ∀ args w, (callFunc f args).run Tryz.prog w = .ok (.enter f args) w) (h : Scn w g l k) (n k' : Nat) (hn : spn p (l.drop k) = n) (hk' : k + n = k') :
  Calls Tryz.prog 108 #[.pointer (some ⟨g, 0, none⟩), .func (.func f) #[] #[]] w (ScnPost w g l k' (.string (ofL ((l.drop k).take n)))) := by
 have c0 := h.cell 0
 have c1 := h.cell 1
 have f1 := h.free 1
 have hs := Lib.hid (ofL_size l)
 have ho := h.off
 have hr := h.room
 have hle : k' ≤ l.length := by have := spn_le p (l.drop k); simp at this; omega
 have hle2 : k' ≤ (ofL l).size := by rw [hs.out]; exact hle
 have he := Lib.hid (ofL_extract l k k')
 have hkk : k ≤ k' := by omega
 have hkn : (k : Int) + (n : Int) ≤ 8000 := by omega
 have hn' : Hid (k' - k = n) := by unfold Hid; omega
 have hadd : Hid ((k : Int) + (n : Int) = (k' : Int)) := by unfold Hid; omega
 have hsub : Hid ((k' : Int) - (n : Int) = (k : Int)) := by unfold Hid; omega
 have HN := Lib.hid hn; clear hn hk'
 have H := Lib.hid h; clear h
 have hf2 := Lib.hid hf; clear hf
 have hE2 := Lib.hid hE; clear hE
 go_enter Tryz.func108, Tryz.ntmps108
 go_wp2_with (first | (go_at_call 111; refine (rest_any H.out).mono ?_; rintro e w' ⟨rfl, m, rfl⟩) | (go_at_call 171; refine (span_any f p hf2.out hE2.out _ _ (by rw [ofL_size]; simp; omega)).mono ?_; rintro e w' ⟨rfl, rfl⟩; rw [ofL_data, HN.out]))
 rw [hadd.out]
 have S1 : Scn ((w.drewN m).setCell ⟨g, 1, none⟩ (.int .i64 (k' : Int))) g l k' := (H.out.drewN m).go k' hle
 have O1 : Only g w ((w.drewN m).setCell ⟨g, 1, none⟩ (.int .i64 (k' : Int))) := ((Only.refl g w).drewN m).set 1 _
 generalize hw1 : (w.drewN m).setCell ⟨g, 1, none⟩ (.int .i64 (k' : Int)) = w1 at *
 have HW := Lib.hid hw1; clear hw1
 have d0 := S1.cell 0
 have d1 := S1.cell 1
 have hw : IntKind.i64.wrap ((k' : Int) - (n : Int)) = (k : Int) := by rw [hsub.out]; exact IntWalk.i64_in _ (by omega)
 have hkk2 : (0 : Int) ≤ (k : Int) := by omega
 clear c0 c1 f1
 go_quiet (fail)
 clear hw
 go_wp2
 go_ret
 refine ⟨?_, S1.drewN nq, O1.drewN nq⟩
 rw [he.out, hn'.out]
 rfl
end
/- Layer 9: the contracts of IsName, isKeyword and IsWord. -/
open Go.RowKit

def kws : List (List UInt8) := [[97, 103, 97, 105, 110], [97, 110, 100], [97, 115], [97, 116], [99, 97, 108, 108], [99, 104, 111, 105, 99, 101], [101, 108, 115, 101], [102, 114, 111, 109], [105, 102], [105, 110, 116], [108, 101, 110], [108, 111, 111, 112], [109, 101, 115, 115, 97, 103, 101], [111, 102], [111, 102, 102, 101, 114], [111, 110], [111, 114], [112, 97, 114], [112, 108, 97, 121, 115], [112, 114, 111, 116, 111, 99, 111, 108], [115, 101, 114, 118, 105, 99, 101], [116, 101, 120, 116], [116, 105, 109, 101, 115], [116, 111], [118, 97, 114], [119, 104, 101, 114, 101], [119, 104, 105, 108, 101], [119, 105, 116, 104, 105, 110]]
def kwB (l : List UInt8) : Bool := decide (l ∈ kws)
def nmB (l : List UInt8) : Bool := decide (1 ≤ l.length) && (decide (l.length ≤ 16) && (cL (nxt l) && decide (spn cN l = l.length)))
def wdB (l : List UInt8) : Bool := nmB l && !kwB l
set_option maxRecDepth 20000 in
set_option maxHeartbeats 1000000 in
theorem isKeyword_s (s : ByteArray) (w : World) : Calls Tryz.prog 107 #[.string s] w (BoolIs (kwB s.toList) w) := by
 go_enter Tryz.func107, Tryz.ntmps107
 go_wp2
 all_goals
  go_ret
  refine BoolIs.mk ?_
  simp_all [kwB, kws]
theorem isKeyword_any (l : List UInt8) (w : World) : Calls Tryz.prog 107 #[.string (ofL l)] w (BoolIs (kwB l) w) := by
 have := isKeyword_s (ofL l) w
 rwa [ofL_toList] at this
set_option maxHeartbeats 1000000 in
theorem isName_any (l : List UInt8) (w : World) : Calls Tryz.prog 106 #[.string (ofL l)] w (BoolIs (nmB l) w) := by
 obtain ⟨s, hs⟩ : ∃ s, s = ofL l := ⟨_, rfl⟩
 have hsz : s.size = l.length := by rw [hs, ofL_size]
 have hsl : s.toList = l := by rw [hs, ofL_toList]
 have hsd : s.data.toList = l := by rw [hs, ofL_data]
 rw [← hs]
 by_cases h0 : 1 ≤ l.length
 ·have hne : s.toList ≠ [] := by rw [hsl]; intro e; rw [e] at h0; simp at h0
  have hne2 : (!s.toList.isEmpty) = true := by simpa using hne
  have h1 : 0 < s.size := by omega
  by_cases h16 : l.length ≤ 16
  ·have h2 : s.size ≤ 16 := by omega
   have hg : s[0].toNat = nxt l := by
    subst hs
    rw [ofL_get l 0 h1, ← nxt_at (k := 0) (by omega), List.drop_zero]
   have HG := Lib.hid hg
   have HD := Lib.hid hsd
   have HZ := Lib.hid hsz
   have hs2 : s.size ≤ 140737488351232 := by omega
   cases hc : cL (nxt l) with
   | true =>
    have HC := Lib.hid hc
    obtain ⟨n, hn⟩ : ∃ n, spn cN l = n := ⟨_, rfl⟩
    have hb := Lib.hid (show nmB l = decide (n = l.length) by unfold nmB; rw [hc, hn]; simp [h0, h16])
    have HN := Lib.hid hn
    clear hs hsz hsl hsd h0 h16 hg hc hn
    go_enter Tryz.func106, Tryz.ntmps106
    go_wp2_with fail
    refine (isLetter_any _ _).mono ?_; rintro e w1 ⟨rfl, rfl⟩; rw [HG.out, HC.out]
    go_wp2_with fail
    refine (span_any _ _ (fun n w => isNamePart_any n w) ent_namePart _ _ hs2).mono ?_; rintro e w1 ⟨rfl, rfl⟩; rw [HD.out, HN.out]
    go_wp2
    go_ret
    refine BoolIs.mk ?_
    rw [hb.out, HZ.out]
    rw [Bool.eq_iff_iff]; simp; omega
   | false =>
    have HC := Lib.hid hc
    have hb := Lib.hid (show nmB l = false by unfold nmB; rw [hc]; simp)
    clear hs hsz hsl hsd h0 h16 hg hc
    go_enter Tryz.func106, Tryz.ntmps106
    go_wp2_with fail
    refine (isLetter_any _ _).mono ?_; rintro e w1 ⟨rfl, rfl⟩; rw [HG.out, HC.out]
    go_wp2
    go_ret
    exact BoolIs.mk hb.out.symm
  ·have h2 : ¬ s.size ≤ 16 := by omega
   have hb := Lib.hid (show nmB l = false by unfold nmB; simp [h16])
   clear hs hsz hsl hsd h0 h16
   go_enter Tryz.func106, Tryz.ntmps106
   go_wp2
   go_ret
   exact BoolIs.mk hb.out.symm
 ·have hne : s.toList = [] := by rw [hsl]; exact List.eq_nil_of_length_eq_zero (by omega)
  have hne2 : (!s.toList.isEmpty) = false := by rw [hne]; rfl
  have hb := Lib.hid (show nmB l = false by unfold nmB; simp [h0])
  clear hs hsz hsl hsd h0
  go_enter Tryz.func106, Tryz.ntmps106
  go_wp2
  go_ret
  exact BoolIs.mk hb.out.symm
theorem isWord_any (l : List UInt8) (w : World) : Calls Tryz.prog 61 #[.string (ofL l)] w (BoolIs (wdB l) w) := by
 cases hn : nmB l with
 | true =>
  have HN := Lib.hid hn
  have hb := Lib.hid (show wdB l = !kwB l by unfold wdB; rw [hn]; rfl)
  clear hn
  go_enter Tryz.func61, Tryz.ntmps61
  go_wp2_with fail
  refine (isName_any _ _).mono ?_; rintro e w1 ⟨rfl, rfl⟩; rw [HN.out]
  go_wp2_with fail
  refine (isKeyword_any _ _).mono ?_; rintro e w1 ⟨rfl, rfl⟩
  go_wp2
  go_ret
  exact BoolIs.mk hb.out.symm
 | false =>
  have HN := Lib.hid hn
  have hb := Lib.hid (show wdB l = false by unfold wdB; rw [hn]; rfl)
  clear hn
  go_enter Tryz.func61, Tryz.ntmps61
  go_wp2_with fail
  refine (isName_any _ _).mono ?_; rintro e w1 ⟨rfl, rfl⟩; rw [HN.out]
  go_wp2
  go_ret
  exact BoolIs.mk hb.out.symm
end Go.Proofs.YtekpefcggikcbaaGreatDoor
