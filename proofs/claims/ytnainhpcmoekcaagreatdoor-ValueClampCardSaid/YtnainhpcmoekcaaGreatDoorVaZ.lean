/- value: strings.Replacer with single bytes: build (tools/gen_vz.py). -/
import Derived.Test.YtnainhpcmoekcaaGreatDoorVaY
import Derived.Laws.MakeOwn
import Derived.Laws.OwnMore
import Derived.ArgAppend
import Derived.Laws.IdiomStrings
import Derived.Laws.Cover3
namespace Go.Proofs.YtnainhpcmoekcaaGreatDoor
open Go.RowKit

theorem zc_eq : Tryz.zeroCells148 = Array.replicate 257 (.slice none 0 0) := by kernel_rfl
theorem zc_size : Tryz.zeroCells148.size = 257 := by rw [zc_eq, Array.size_replicate]
theorem store_zc (W : World) (b : Nat) (v : Value) (hv : v.oneCell' = true) (h : Bx W b 148 Tryz.zeroCells148) :
  (storeCells ⟨b, 0, none⟩ (Tryz.zeroCells148.toList.set 256 v)).run Tryz.prog W = .ok () (W.setRow b (Tryz.zeroCells148.setIfInBounds 256 v)) := by
 have := run_storeCells_from (P := Tryz.prog) b 148 (Tryz.zeroCells148.toList.set 256 v) 0 Tryz.zeroCells148 W h (by rw [List.length_set, Array.length_toList]; omega) (fun u hu => by
  rw [zc_eq, Array.toList_replicate] at hu
  rcases List.mem_or_eq_of_mem_set hu with hu | rfl
  ·rw [(List.mem_replicate.1 hu).2]; rfl
  ·exact hv)
 rw [this, List.take_zero, List.nil_append, ← Array.toList_setIfInBounds, Array.toArray_toList]
theorem info_str : (Tryz.prog.info? 9).map (fun i => (i.zero, i.size, i.bytes)) = some (some (.string ⟨#[]⟩), 1, 16) := by kernel_rfl
/-- A byteStringReplacer in block q: its table f, its list t. -/
def BsR (w : World) (q : Nat) (f : Nat → Value) (t : Value) : Prop := ∃ cs, Bx w q 148 cs ∧ cs.size = 257 ∧ (∀ c, c < 256 → cs[c]? = some (f c)) ∧ cs[256]? = some t
def updF (f : Nat → Value) (k : Nat) (v : Value) (c : Nat) : Value := if c = k then v else f c
section
variable {w w' : World} {q : Nat} {f : Nat → Value} {t : Value}
theorem BsR.at (h : BsR w q f t) {c : Nat} (hc : c < 256) : w.cell? ⟨q, c, none⟩ = some (f c) := by
 obtain ⟨cs, h1, h2, h3, h4⟩ := h
 exact (h1.cell c).trans (h3 c hc)
theorem BsR.top (h : BsR w q f t) : w.cell? ⟨q, 256, none⟩ = some t := by
 obtain ⟨cs, h1, h2, h3, h4⟩ := h
 exact (h1.cell 256).trans h4
theorem BsR.free (h : BsR w q f t) (i : Nat) : w.frozen? ⟨q, i, none⟩ = false := by
 obtain ⟨cs, h1, -⟩ := h
 exact h1.free i
theorem BsR.lt (h : BsR w q f t) : q < w.heap.size := by
 obtain ⟨cs, h1, -⟩ := h
 exact h1.lt
theorem BsR.keep (h : BsR w q f t) (hb : w'.heap[q]? = w.heap[q]?) : BsR w' q f t := by
 obtain ⟨cs, h1, h2⟩ := h
 exact ⟨cs, hb.trans h1, h2⟩
theorem BsR.alloc' (h : BsR w q f t) (o : Obj) : BsR (w.alloc o) q f t := h.keep (Below.heap_alloc _ _ _ h.lt)
theorem BsR.below (h : BsR w q f t) (hb : Below w.heap.size w w') : BsR w' q f t := h.keep (hb.block q h.lt)
theorem BsR.setTop (h : BsR w q f t) (v : Value) : BsR (w.setCell ⟨q, 256, none⟩ v) q f v := by
 obtain ⟨cs, h1, h2, h3, h4⟩ := h
 refine ⟨_, h1.set 256 v, by rw [Array.size_setIfInBounds, h2], fun c hc => ?_, ?_⟩
 ·rw [Array.getElem?_setIfInBounds, if_neg (by omega)]; exact h3 c hc
 ·rw [Array.getElem?_setIfInBounds, if_pos rfl, if_pos (by omega)]
theorem BsR.set (h : BsR w q f t) {k : Nat} (hk : k < 256) (v : Value) : BsR (w.setCell ⟨q, k, none⟩ v) q (updF f k v) t := by
 obtain ⟨cs, h1, h2, h3, h4⟩ := h
 refine ⟨_, h1.set k v, by rw [Array.size_setIfInBounds, h2], fun c hc => ?_, ?_⟩
 ·rw [Array.getElem?_setIfInBounds]
  unfold updF
  by_cases e : k = c
  ·rw [if_pos e, if_pos e.symm, if_pos (by omega)]
  ·rw [if_neg e, if_neg (Ne.symm e)]; exact h3 c hc
 ·rw [Array.getElem?_setIfInBounds, if_neg (by omega)]; exact h4
end
theorem BsR.new (w : World) (b : Nat) (v : Value) (h : Bx w b 148 Tryz.zeroCells148) : BsR (w.setRow b (Tryz.zeroCells148.setIfInBounds 256 v)) b (fun _ => .slice none 0 0) v := by
 refine ⟨_, h.row, by rw [Array.size_setIfInBounds, zc_size], fun c hc => ?_, ?_⟩
 ·rw [Array.getElem?_setIfInBounds, if_neg (by omega), zc_eq, Array.getElem?_replicate, if_pos (by omega)]
 ·rw [Array.getElem?_setIfInBounds, if_pos rfl, if_pos (by rw [zc_size]; omega)]
theorem app1G {P : Program} {w : World} {ops : Array Oper} {rest : List Oper} {o : Oper} {a : Act} {Q : Exit → Act → World → Prop} (hgd : o.guard = none) (s x : Operand) (t : TypeId)
  (ho : o.op = .call { callee := .builtin .append, args := #[s, x], argTypes := #[t, t] })
  (e : TypeId) (z : Value) (by_ : Nat) (hinfo : (P.info? e).map (fun i => (i.zero, i.size, i.bytes)) = some (some z, 1, by_)) (hzs : z.cells.size = 1) (ht : P.underlying t = some (.slice e))
  (B : Nat) (v : Value) (n : Nat) (xs : List Value) (hs : a.eval s = v) (hown : w.ownsRow B e 1 v n xs) (c : Value) (hx : a.eval x = .slice (some ⟨w.heap.size, 0, none⟩) 1 1) (h1 : c.oneCell' = true)
  (hr : (n + 1) * by_ ≤ 140737488355328) (hm : n + 1 ≤ 140737488355328) (hB : B ≤ w.heap.size)
  (h : ∀ v' w', w'.ownsRow B e 1 v' (n + 1) (xs ++ [c]) → (w.alloc (.cells #[c] e)).grownBy w' v.ownBlock → wpList P ops Q rest (a.put o.dst v') w') : wpList P ops Q (o :: rest) a (w.alloc (.cells #[c] e)) := by
 obtain ⟨i0, hi, hz0, hz1, hz2⟩ := info_parts hinfo
 refine wpList_append_own _ hgd s x t ho B e i0 z 1 by_ ht hi hz0 hz1 hz2 hzs (by decide) v n xs hs (hown.alloc _) ⟨w.heap.size, 0, none⟩ 1 1 [c] hx rfl ?_ ?_ ?_ hr ?_ ?_
 ·intro j u hj
  match j, hj with
  | 0, hj => simp at hj; subst hj; simp [Addr.add]
 ·intro u hu; simp at hu; subst hu; exact h1
 ·unfold maxLen; omega
 ·simp; omega
 ·intro v' w' hown' hg _
  exact h v' w' hown' hg
theorem byte_str (x : Nat) (W : World) : (convert 84 9 (.slice (some ⟨W.heap.size, 0, none⟩) 1 1)).run Tryz.prog (W.alloc (.cells #[.int .u8 (x : Int)] 5)) = .ok (.string (strOf [x])) (W.alloc (.cells #[.int .u8 (x : Int)] 5)) :=
 run_str (P := Tryz.prog) (w := W.alloc (.cells #[.int .u8 (x : Int)] 5)) 84 5 9 Tryz.underlying84 Tryz.underlying5 Tryz.underlying9 _ [x] (.inr ⟨⟨W.heap.size, 0, none⟩, 1, rfl, by simp, fun j y hj => by
  match j, hj with
  | 0, hj => simp at hj; subst hj; simp [Addr.add, bv]⟩)
theorem below_setRow {B b : Nat} {w0 w : World} (h : Below B w0 w) (hb : B ≤ b) (cs : Array Value) : Below B w0 (w.setRow b cs) :=
 ⟨h.os, h.tape, h.output, by rw [size_setRow]; exact h.size, fun k hk => (setRow_other w b k cs (by omega)).trans (h.block k hk)⟩
/-- The blocks of bytes are as they were. -/
def KU (w w' : World) : Prop := ∀ (b : Nat) (cs : Array Value) (fr : Nat × Nat), w.heap[b]? = some (.cells cs 5 fr) → w'.heap[b]? = w.heap[b]?
theorem KU.trans {a b c : World} (h : KU a b) (k : KU b c) : KU a c := fun x cs fr hx => (k x cs fr ((h x cs fr hx).trans hx)).trans (h x cs fr hx)
theorem KU.below {w w' : World} (h : Below w.heap.size w w') : KU w w' := fun b _ _ hb => h.block b (lt_of_some hb)
theorem KU.setq {w : World} {q i : Nat} {f : Nat → Value} {t u : Value} (h : BsR w q f t) : KU w (w.setCell ⟨q, i, none⟩ u) := fun b cs fr hb => by
 obtain ⟨cs2, h1, -⟩ := h
 refine Below.heap_setCell _ _ _ _ (fun e => ?_)
 have e2 : b = q := e
 rw [e2, h1] at hb
 exact absurd hb (by simp only [Option.some.injEq, Obj.cells.injEq]; rintro ⟨-, h, -⟩; revert h; decide)
theorem KU.grown {w w' : World} {B n : Nat} {v : Value} {xs : List Value} (ho : w.ownsRow B 9 1 v n xs) (hg : w.grownBy w' v.ownBlock) : KU w w' := fun b cs fr hb => by
 refine hg.block b (lt_of_some hb) (fun e => ?_)
 rcases ho.2 with ⟨rfl, _⟩ | ⟨g, cap, cur, rfl, _, h3, _⟩
 ·simp [Value.ownBlock] at e
 ·have e2 : b = g := by simpa [Value.ownBlock] using e
  rw [e2, h3] at hb
  exact absurd hb (by simp only [Option.some.injEq, Obj.cells.injEq]; rintro ⟨-, h, -⟩; revert h; decide)
theorem bsr_off {w : World} {q B n : Nat} {f : Nat → Value} {t v : Value} {xs : List Value} (h : BsR w q f t) (ho : w.ownsRow B 9 1 v n xs) : some q ≠ v.ownBlock := fun e => by
 obtain ⟨cs2, h1, -⟩ := h
 rcases ho.2 with ⟨rfl, _⟩ | ⟨g, cap, cur, rfl, _, h3, _⟩
 ·simp [Value.ownBlock] at e
 ·have e2 : q = g := by simpa [Value.ownBlock] using e
  unfold Bx at h1
  rw [e2, h3] at h1
  exact absurd h1 (by simp only [Option.some.injEq, Obj.cells.injEq]; rintro ⟨-, h, -⟩; revert h; decide)
theorem own_below {w w' : World} {B e n : Nat} {v : Value} {xs : List Value} (h : w.ownsRow B e 1 v n xs) (hb : Below w.heap.size w w') : w'.ownsRow B e 1 v n xs :=
 World.ownsRow.kept (row := none) h ⟨hb.os, hb.tape, hb.output, hb.size, fun k hk _ => hb.block k hk⟩ (by cases v.ownBlock <;> simp)
theorem own_setO {w : World} {B e sz n g i : Nat} {v u : Value} {xs : List Value} (h : w.ownsRow B e sz v n xs) (hne : v.ownBlock ≠ some g) : (w.setCell ⟨g, i, none⟩ u).ownsRow B e sz v n xs :=
 World.ownsRow.kept (row := some g) h ⟨rfl, rfl, rfl, by simp [World.setCell], fun k _ hk => Below.heap_setCell _ _ _ _ (fun e => hk (congrArg some e))⟩ (.inr hne)
theorem own_shapeR {w : World} {B e n : Nat} {v : Value} {xs : List Value} (h : w.ownsRow B e 1 v n xs) : ∃ A c, v = .slice A n c := by
 rcases h.2 with ⟨rfl, h0⟩ | ⟨g, cap, cur, rfl, _⟩
 ·exact ⟨none, 0, by rw [h0]⟩
 ·exact ⟨_, _, rfl⟩
/-- A slice of two bytes. -/
def By2 (w : World) (v : Value) (x y : Nat) : Prop := ∃ b c cs fr, v = .slice (some ⟨b, 0, none⟩) 2 c ∧ w.heap[b]? = some (.cells cs 5 fr) ∧ cs[0]? = some (.int .u8 (x : Int)) ∧ cs[1]? = some (.int .u8 (y : Int))
theorem By2.ku {w w' : World} {v : Value} {x y : Nat} (h : By2 w v x y) (hk : KU w w') : By2 w' v x y := by
 obtain ⟨b, c, cs, fr, h1, h3, h4⟩ := h
 exact ⟨b, c, cs, fr, h1, (hk b cs fr h3).trans h3, h4⟩
/-- What the table holds behind k rounds. -/
structure FO (k : Nat) (f : Nat → Value) (w : World) : Prop where
 nil : ∀ c, c < 256 → (c ≠ 92 ∨ k = 0) → (c ≠ 34 ∨ k ≤ 1) → f c = .slice none 0 0
 one : 1 ≤ k → By2 w (f 92) 92 92
 two : 2 ≤ k → By2 w (f 34) 92 34
theorem FO.ku {k : Nat} {f : Nat → Value} {w w' : World} (h : FO k f w) (hk : KU w w') : FO k f w' := ⟨h.nil, fun g => (h.one g).ku hk, fun g => (h.two g).ku hk⟩
theorem FO.n1 {f : Nat → Value} {w : World} {v : Value} (h : FO 0 f w) (hv : By2 w v 92 92) : FO 1 (updF f 92 v) w := by
 refine ⟨fun c h1 h2 h3 => ?_, fun _ => ?_, fun g => by omega⟩
 ·unfold updF
  rw [if_neg (by omega)]
  exact h.nil c h1 (.inr rfl) (.inr (by omega))
 ·unfold updF; rw [if_pos rfl]; exact hv
theorem FO.n2 {f : Nat → Value} {w : World} {v : Value} (h : FO 1 f w) (hv : By2 w v 92 34) : FO 2 (updF f 34 v) w := by
 refine ⟨fun c h1 h2 h3 => ?_, fun _ => ?_, fun _ => ?_⟩
 ·unfold updF
  rw [if_neg (by omega)]
  exact h.nil c h1 (by omega) (.inr (by omega))
 ·unfold updF; rw [if_neg (by omega)]; exact h.one (by omega)
 ·unfold updF; rw [if_pos rfl]; exact hv
theorem run_byt (s : ByteArray) (W : World) : (convert 9 84 (.string s)).run Tryz.prog W = .ok (.slice (some ⟨W.heap.size, 0, none⟩) s.size (grownCap W s.size 0 5)) (W.drew.alloc (.cells (bytesRow s (grownCap W s.size 0 5)) 5 ((bytesRow s (grownCap W s.size 0 5)).size, (bytesRow s (grownCap W s.size 0 5)).size + 1))) :=
 run_bytes_of_string W 9 84 5 s Tryz.underlying9 Tryz.underlying84 Tryz.underlying5
theorem nil_eq (W : World) : (binOp BinOp.eql 84 (.slice none 0 0) (.slice none 0 0)).run Tryz.prog W = .ok (.bool true) W := by
 simp [binOp, go_sem, run_equal_slice_nil W _ _ none 0 0 Tryz.underlying84]
theorem nil_ne (a : Addr) (n c : Nat) (W : World) : (binOp BinOp.neq 84 (.slice (some a) n c) (.slice none 0 0)).run Tryz.prog W = .ok (.bool true) W :=
 run_neq_slice_nil W _ _ (some a) n c Tryz.underlying84
theorem nil_nn (W : World) : (binOp BinOp.neq 84 (.slice none 0 0) (.slice none 0 0)).run Tryz.prog W = .ok (.bool false) W :=
 run_neq_slice_nil W _ _ none 0 0 Tryz.underlying84
theorem rnd_end {w wr w6 W2 : World} {q k n o x y : Nat} {f : Nat → Value} {t : Value} {At A9 : Option Addr} {ct c9 cp : Nat} {xs ys : List Value} {cs : Array Value} {fr : Nat × Nat}
  (hB : Below w.heap.size w wr) (hqw : w.heap.size ≤ q) (ho : o < 256) (hW : Below wr.heap.size wr W2) (h2 : W2.ownsRow w.heap.size 9 1 (.slice At k ct) k xs) (hq2 : BsR W2 q f t)
  (hg : W2.grownBy w6 (Value.slice At k ct).ownBlock) (h6 : w6.ownsRow w.heap.size 9 1 (.slice A9 n c9) n ys) (hF : FO k f wr) (hcs : cs[0]? = some (.int .u8 (x : Int)) ∧ cs[1]? = some (.int .u8 (y : Int)))
  {W : World} (hWe : W = (((w6.setCell ⟨q, 256, none⟩ (.slice A9 n c9)).alloc (.cells cs 5 fr)).setCell ⟨q, o, none⟩ (.slice (some ⟨w6.heap.size, 0, none⟩) 2 cp)).drew) :
  BsR W q (updF f o (.slice (some ⟨w6.heap.size, 0, none⟩) 2 cp)) (.slice A9 n c9) ∧ W.ownsRow w.heap.size 9 1 (.slice A9 n c9) n ys ∧ FO k f W ∧ By2 W (.slice (some ⟨w6.heap.size, 0, none⟩) 2 cp) x y ∧ Below w.heap.size w W := by
 have hq6 : BsR w6 q f t := hq2.keep (hg.block q hq2.lt (bsr_off hq2 h2))
 have hne := bsr_off hq6 h6
 have a3 := hq6.setTop (.slice A9 n c9)
 have a4 := a3.alloc' (.cells cs 5 fr)
 have a5 := a4.set ho (.slice (some ⟨w6.heap.size, 0, none⟩) 2 cp)
 have b3 := own_setO (i := 256) (u := .slice A9 n c9) h6 (Ne.symm hne)
 have b4 := own_below b3 (al1 _ (.cells cs 5 fr))
 have b5 := own_setO (i := o) (u := .slice (some ⟨w6.heap.size, 0, none⟩) 2 cp) b4 (Ne.symm hne)
 have hs : w.heap.size ≤ W2.heap.size := Nat.le_trans hB.size hW.size
 have d2 := hB.trans (hW.mono hB.size)
 have d6 := d2.trans ((Frm.grown h2 hg).below hs)
 have d3 := d6.setCell (p := ⟨q, 256, none⟩) hqw (.slice A9 n c9)
 have d4 := d3.trans ((al1 _ (.cells cs 5 fr)).mono d3.size)
 have d5 := d4.setCell (p := ⟨q, o, none⟩) hqw (.slice (some ⟨w6.heap.size, 0, none⟩) 2 cp)
 have k5 : KU wr _ := ((((KU.below hW).trans (KU.grown h2 hg)).trans (KU.setq (i := 256) (u := .slice A9 n c9) hq6)).trans (KU.below (al1 _ (.cells cs 5 fr)))).trans (KU.setq (i := o) (u := .slice (some ⟨w6.heap.size, 0, none⟩) 2 cp) a4)
 have hsz : (w6.setCell ⟨q, 256, none⟩ (.slice A9 n c9)).heap.size = w6.heap.size := by simp [World.setCell]
 subst hWe
 refine ⟨a5.keep rfl, own_below b5 ((Below.refl _ _).drew), hF.ku (k5.trans (KU.below ((Below.refl _ _).drew))), ⟨w6.heap.size, cp, cs, fr, rfl, ?_, hcs⟩, d5.drew⟩
 have e1 := heap_alloc_new (w6.setCell ⟨q, 256, none⟩ (.slice A9 n c9)) (.cells cs 5 fr)
 rw [hsz] at e1
 exact (Below.heap_setCell _ _ _ _ (by show w6.heap.size ≠ q; have := hq6.lt; omega)).trans e1
theorem byts (x y cap : Nat) (hx : x < 256) (hy : y < 256) : (bytesRow ⟨#[UInt8.ofNat x, UInt8.ofNat y]⟩ cap)[0]? = some (.int .u8 (x : Int)) ∧ (bytesRow ⟨#[UInt8.ofNat x, UInt8.ofNat y]⟩ cap)[1]? = some (.int .u8 (y : Int)) := by
 unfold bytesRow
 constructor
 ·rw [Array.getElem?_append_left (by simp)]
  simp [Nat.mod_eq_of_lt hx]
 ·rw [Array.getElem?_append_left (by simp)]
  simp [Nat.mod_eq_of_lt hy]
/-- What build has made. -/
structure Brp (w : World) (q : Nat) : Prop where
 ex : ∃ f t A c, BsR w q f t ∧ t = .slice A 2 c ∧ FO 2 f w
set_option maxRecDepth 100000 in
set_option maxHeartbeats 4000000 in
theorem build_any (rb o c : Nat) (x0 x1 x2 x3 : Value) (w : World) (hr : Bx w rb 109 #[x0, x1, x2, x3, .slice (some ⟨o, 0, none⟩) 4 c])
  (ho : w.cell? ⟨o, 0, none⟩ = some (.string ⟨#[34]⟩) ∧ w.cell? ⟨o, 1, none⟩ = some (.string ⟨#[92, 34]⟩) ∧ w.cell? ⟨o, 2, none⟩ = some (.string ⟨#[92]⟩) ∧ w.cell? ⟨o, 3, none⟩ = some (.string ⟨#[92, 92]⟩)) :
  Calls Tryz.prog 91 #[.pointer (some ⟨rb, 0, none⟩)] w fun e w' => ∃ q, e = .returned (.iface 149 (.pointer (some ⟨q, 0, none⟩))) ∧ w.heap.size ≤ q ∧ Brp w' q ∧ Below w.heap.size w w' := by
 have k4 := hr.cell 4
 obtain ⟨o0, o1, o2, o3⟩ := ho
 have hob : o < w.heap.size := World.block_lt_of_cell? _ _ o0
 have KO := Lib.hid (show ∀ w', Below w.heap.size w w' → w'.cell? ⟨o, 0, none⟩ = some (.string ⟨#[34]⟩) ∧ w'.cell? ⟨o, 1, none⟩ = some (.string ⟨#[92, 34]⟩) ∧ w'.cell? ⟨o, 2, none⟩ = some (.string ⟨#[92]⟩) ∧ w'.cell? ⟨o, 3, none⟩ = some (.string ⟨#[92, 92]⟩) from fun w' h => ⟨(h.cell hob).trans o0, (h.cell hob).trans o1, (h.cell hob).trans o2, (h.cell hob).trans o3⟩)
 have hmk : ∀ w : World, (Instr.makeSlice 75 (.int .i64 0) (.int .i64 2)).run Tryz.prog w = .ok (.slice (some ⟨w.heap.size, 0, none⟩) 0 2) (w.alloc (.cells (madeCells #[.string ⟨#[]⟩] 2) 9)) := fun w => by
  obtain ⟨i0, hi, hz0, hz1, hz2⟩ := info_parts info_str
  have := run_makeSlice (w := w) 75 9 i0 (.string ⟨#[]⟩) (by kernel_rfl) hi hz0 .i64 .i64 0 2 (by omega) (by omega) (by rw [hz1]; simp) (by rw [hz2]; omega) (by omega)
  rw [hz1] at this
  simpa [Value.cells] using this
 have hrow0 : (w.alloc (.cells (madeCells #[.string ⟨#[]⟩] 2) 9)).ownsRow w.heap.size 9 1 (.slice (some ⟨w.heap.size, 0, none⟩) 0 2) 0 [] := by
  obtain ⟨i0, hi, hz0, hz1, hz2⟩ := info_parts info_str
  obtain ⟨w', h1, h2, -⟩ := run_make_own w w.heap.size 75 9 i0 (.string ⟨#[]⟩) 1 (by kernel_rfl) hi hz0 hz1 .i64 .i64 2 (by rw [hz2]; omega) (by unfold maxLen; omega) (Nat.le_refl _)
  have h3 := (hmk w).symm.trans h1
  cases h3
  exact h2
 have HR0 := Lib.hid hrow0
 have hbx := heap_alloc_2' w (.cells (madeCells #[.string ⟨#[]⟩] 2) 9) (.cells Tryz.zeroCells148 148)
 have hst := store_zc ((w.alloc (.cells (madeCells #[.string ⟨#[]⟩] 2) 9)).alloc (.cells Tryz.zeroCells148 148)) (w.heap.size + 1) (.slice (some ⟨w.heap.size, 0, none⟩) 0 2) rfl hbx
 have HBX := Lib.hid (BsR.new _ _ (.slice (some ⟨w.heap.size, 0, none⟩) 0 2) hbx)
 clear hrow0 hbx hob hr
 go_enter Tryz.func91, Tryz.ntmps91
 go_wp2_with fail
 go_loopw [4, 5] (fun va vi wr => ∃ k : Nat, k ≤ 2 ∧ vi = .int .i64 ((2 * k : Nat) : Int) ∧ va = .bool (decide (k = 0)) ∧ wr = w) (fun _ vi _ => 4 - (intOf vi).toNat)
 case atStart => exact ⟨0, by omega, rfl, rfl, rfl⟩
 case round =>
  obtain ⟨k, hk, rfl, rfl, hw⟩ := hrel
  obtain rfl : w = wr := hw.symm
  match k, hk with
  | 0, _ =>
   go_wp2_with fail
   go_roundw
   case rel => exact ⟨1, by omega, by go_num, rfl, trivial⟩
   case measure => simp [intOf]
  | 1, _ =>
   go_wp2_with fail
   go_roundw
   case rel => exact ⟨2, by omega, by go_num, rfl, trivial⟩
   case measure => simp [intOf]
  | 2, _ =>
   go_wp2_with fail
   obtain ⟨V, hV⟩ : ∃ V, V = ((w.alloc (.cells (madeCells #[.string ⟨#[]⟩] 2) 9)).alloc (.cells Tryz.zeroCells148 148)).setRow (w.heap.size + 1) (Tryz.zeroCells148.setIfInBounds 256 (.slice (some ⟨w.heap.size, 0, none⟩) 0 2)) := ⟨_, rfl⟩
   have hbV : Below w.heap.size w V := by
    rw [hV]
    have := below_setRow (b := w.heap.size + 1) (al2 w (.cells (madeCells #[.string ⟨#[]⟩] 2) 9) (.cells Tryz.zeroCells148 148)) (by omega) (Tryz.zeroCells148.setIfInBounds 256 (.slice (some ⟨w.heap.size, 0, none⟩) 0 2))
    exact this
   have hRV : V.ownsRow w.heap.size 9 1 (.slice (some ⟨w.heap.size, 0, none⟩) 0 2) 0 [] := by
    rw [hV]
    refine World.ownsRow.kept (row := some (w.heap.size + 1)) (HR0.out.alloc (.cells Tryz.zeroCells148 148)) ⟨rfl, rfl, rfl, by simp [World.setRow], fun k _ hk => ?_⟩ (.inr (by simp [Value.ownBlock]))
    exact setRow_other _ _ _ _ (fun e => hk (by rw [e]))
   rw [← hV] at HBX ⊢
   have HB0 := Lib.hid hbV; have HRV := Lib.hid hRV
   clear hV hbV hRV HR0 hst hmk
   obtain ⟨q, hq⟩ : ∃ q, q = w.heap.size + 1 := ⟨_, rfl⟩
   rw [← hq] at HBX ⊢
   have HF0 := Lib.hid (show FO 0 (fun _ => .slice none 0 0) V from ⟨fun _ _ _ _ => rfl, fun g => by omega, fun g => by omega⟩)
   have hqw : w.heap.size ≤ q := by omega
   clear hq
   go_loopw [12] (fun vi wq => ∃ k : Nat, k ≤ 2 ∧ vi = .int .i64 (2 - 2 * (k : Int)) ∧ ∃ (f : Nat → Value) (t : Value) (xs : List Value), Hid (BsR wq q f t) ∧ Hid (wq.ownsRow w.heap.size 9 1 t k xs) ∧ Hid (FO k f wq) ∧ Hid (Below w.heap.size w wq)) (fun vi _ => (intOf vi + 2).toNat)
   case atStart => exact ⟨0, by omega, rfl, _, _, _, HBX, HRV, HF0, HB0⟩
   case round =>
    clear HBX HRV HF0 HB0
    obtain ⟨k, hk, rfl, f, t, xs, HQ, HR, HF, HB⟩ := hrel
    match k, hk with
    | 0, _ =>
     obtain ⟨o0, o1, o2, o3⟩ := KO.out _ HB.out
     have ht := HQ.out.top
     have hc := HQ.out.at (c := 92) (by omega)
     rw [HF.out.nil 92 (by omega) (by omega) (by omega)] at hc
     obtain ⟨At, ct, rfl⟩ := own_shapeR HR.out
     have hlt := HQ.out.lt
     have hb0 : ∀ h : 0 < (⟨#[92]⟩ : ByteArray).size, ((⟨#[92]⟩ : ByteArray)[0]'h).toNat = 92 := fun _ => rfl
     have hne := nil_eq
     have hbs : ∀ W : World, (convert 84 9 (.slice (some ⟨W.heap.size, 0, none⟩) 1 1)).run Tryz.prog (W.alloc (.cells #[.int .u8 92] 5)) = .ok (.string ⟨#[92]⟩) (W.alloc (.cells #[.int .u8 92] 5)) := fun W => byte_str 92 W
     have hba := al1 wr (.cells #[.int .u8 (92 : Int)] 5)
     have HO1 := Lib.hid (own_below HR.out hba)
     have HQ1 := Lib.hid (HQ.out.below hba)
     have hbb := fun W => run_byt ⟨#[92, 92]⟩ W
     have HQ2 := Lib.hid (HQ1.out.alloc' (.cells #[.string ⟨#[92]⟩] 9))
     have HOF := Lib.hid (bsr_off HQ1.out HO1.out)
     have Hsz := Lib.hid (show (wr.alloc (.cells #[.int .u8 (92 : Int)] 5)).heap.size = wr.heap.size + 1 by simp)
     have hB1 : w.heap.size ≤ (wr.alloc (.cells #[.int .u8 (92 : Int)] 5)).heap.size := Nat.le_trans HB.out.size (by simp)
     go_wp2_with (at_builtin; refine app1G rfl _ _ 75 rfl 9 (.string ⟨#[]⟩) 16 info_str rfl Tryz.underlying75 w.heap.size _ _ _ rfl HO1.out _ (by rw [Hsz.out]; rfl) rfl (by omega) (by omega) hB1 ?_; intro v' w6 hown6 hg6; obtain ⟨A9, c9, rfl⟩ := own_shapeR hown6; have hq6 := HQ2.out.keep (hg6.block q HQ2.out.lt HOF.out); have t6 := hq6.top; have c6 := hq6.at (c := 92) (by omega); have f6 := hq6.free 256; have g6 := hq6.free 92; have h6 : ∀ o : Obj, BsR ((w6.setCell ⟨q, 256, none⟩ (.slice A9 1 c9)).alloc o) q f (.slice A9 1 c9) := fun o => (hq6.setTop _).alloc' o; have c7 := fun o => (h6 o).at (c := 92) (by omega); have g7 := fun o => (h6 o).free 92)
     go_roundw
     case rel =>
      have hby := byts 92 92 (grownCap (w6.setCell ⟨q, 256, none⟩ (.slice A9 1 c9)) 2 0 5) (by decide) (by decide)
      obtain ⟨e1, e2, e3, e4, e5⟩ := rnd_end HB.out hqw (by decide : 92 < 256) (al2 wr (.cells #[.int .u8 (92 : Int)] 5) (.cells #[.string ⟨#[92]⟩] 9)) (own_below HO1.out (al1 _ _)) HQ2.out hg6 hown6 HF.out hby (cp := grownCap (w6.setCell ⟨q, 256, none⟩ (.slice A9 1 c9)) 2 0 5) (fr := ((bytesRow ⟨#[92, 92]⟩ (grownCap (w6.setCell ⟨q, 256, none⟩ (.slice A9 1 c9)) 2 0 5)).size, (bytesRow ⟨#[92, 92]⟩ (grownCap (w6.setCell ⟨q, 256, none⟩ (.slice A9 1 c9)) 2 0 5)).size + 1)) rfl
      exact ⟨1, by omega, by go_num, _, _, _, Lib.hid e1, Lib.hid e2, Lib.hid (e3.n1 e4), Lib.hid e5⟩
     case measure => simp [intOf]
    | 1, _ =>
     obtain ⟨o0, o1, o2, o3⟩ := KO.out _ HB.out
     have ht := HQ.out.top
     have hc := HQ.out.at (c := 34) (by omega)
     rw [HF.out.nil 34 (by omega) (by omega) (by omega)] at hc
     obtain ⟨At, ct, rfl⟩ := own_shapeR HR.out
     have hlt := HQ.out.lt
     have hb0 : ∀ h : 0 < (⟨#[34]⟩ : ByteArray).size, ((⟨#[34]⟩ : ByteArray)[0]'h).toNat = 34 := fun _ => rfl
     have hne := nil_eq
     have hbs : ∀ W : World, (convert 84 9 (.slice (some ⟨W.heap.size, 0, none⟩) 1 1)).run Tryz.prog (W.alloc (.cells #[.int .u8 34] 5)) = .ok (.string ⟨#[34]⟩) (W.alloc (.cells #[.int .u8 34] 5)) := fun W => byte_str 34 W
     have hba := al1 wr (.cells #[.int .u8 (34 : Int)] 5)
     have HO1 := Lib.hid (own_below HR.out hba)
     have HQ1 := Lib.hid (HQ.out.below hba)
     have hbb := fun W => run_byt ⟨#[92, 34]⟩ W
     have HQ2 := Lib.hid (HQ1.out.alloc' (.cells #[.string ⟨#[34]⟩] 9))
     have HOF := Lib.hid (bsr_off HQ1.out HO1.out)
     have Hsz := Lib.hid (show (wr.alloc (.cells #[.int .u8 (34 : Int)] 5)).heap.size = wr.heap.size + 1 by simp)
     have hB1 : w.heap.size ≤ (wr.alloc (.cells #[.int .u8 (34 : Int)] 5)).heap.size := Nat.le_trans HB.out.size (by simp)
     go_wp2_with (at_builtin; refine app1G rfl _ _ 75 rfl 9 (.string ⟨#[]⟩) 16 info_str rfl Tryz.underlying75 w.heap.size _ _ _ rfl HO1.out _ (by rw [Hsz.out]; rfl) rfl (by omega) (by omega) hB1 ?_; intro v' w6 hown6 hg6; obtain ⟨A9, c9, rfl⟩ := own_shapeR hown6; have hq6 := HQ2.out.keep (hg6.block q HQ2.out.lt HOF.out); have t6 := hq6.top; have c6 := hq6.at (c := 34) (by omega); have f6 := hq6.free 256; have g6 := hq6.free 34; have h6 : ∀ o : Obj, BsR ((w6.setCell ⟨q, 256, none⟩ (.slice A9 2 c9)).alloc o) q f (.slice A9 2 c9) := fun o => (hq6.setTop _).alloc' o; have c7 := fun o => (h6 o).at (c := 34) (by omega); have g7 := fun o => (h6 o).free 34)
     go_roundw
     case rel =>
      have hby := byts 92 34 (grownCap (w6.setCell ⟨q, 256, none⟩ (.slice A9 2 c9)) 2 0 5) (by decide) (by decide)
      obtain ⟨e1, e2, e3, e4, e5⟩ := rnd_end HB.out hqw (by decide : 34 < 256) (al2 wr (.cells #[.int .u8 (34 : Int)] 5) (.cells #[.string ⟨#[34]⟩] 9)) (own_below HO1.out (al1 _ _)) HQ2.out hg6 hown6 HF.out hby (cp := grownCap (w6.setCell ⟨q, 256, none⟩ (.slice A9 2 c9)) 2 0 5) (fr := ((bytesRow ⟨#[92, 34]⟩ (grownCap (w6.setCell ⟨q, 256, none⟩ (.slice A9 2 c9)) 2 0 5)).size, (bytesRow ⟨#[92, 34]⟩ (grownCap (w6.setCell ⟨q, 256, none⟩ (.slice A9 2 c9)) 2 0 5)).size + 1)) rfl
      exact ⟨2, by omega, by go_num, _, _, _, Lib.hid e1, Lib.hid e2, Lib.hid (e3.n2 e4), Lib.hid e5⟩
     case measure => simp [intOf]
    | 2, _ =>
     obtain ⟨At, ct, rfl⟩ := own_shapeR HR.out
     go_wp2_with fail
     go_ret
     exact ⟨q, rfl, hqw, ⟨f, _, At, ct, HQ.out, rfl, HF.out⟩, HB.out⟩
end Go.Proofs.YtnainhpcmoekcaaGreatDoor
