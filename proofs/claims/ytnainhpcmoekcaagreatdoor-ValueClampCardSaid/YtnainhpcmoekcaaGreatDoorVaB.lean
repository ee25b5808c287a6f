/- value: boxes of structs, strings as lists of bytes. Of no function. -/
import Derived.Test.YtnainhpcmoekcaaGreatDoorBytes
import Derived.Test.YtnainhpcmoekcaaGreatDoorRegInv
import Derived.Laws.Tables
import Derived.Laws.Rows
import Derived.Laws.ResultCell
import Derived.Deep.Draws
import Derived.Deep.QuietTactic
import Derived.BigQuiet
import Derived.IntWalk
namespace Go.Proofs.YtnainhpcmoekcaaGreatDoor
open Go.RowKit

abbrev Bs := List UInt8
def ofL (l : List UInt8) : ByteArray := ⟨l.toArray⟩
theorem below_ext2 {a b c : World} (h : Below a.heap.size a b) (k : Below b.heap.size b c) : Below a.heap.size a c := h.trans (k.mono h.size)
theorem ofL_size (l : List UInt8) : (ofL l).size = l.length := by simp [ofL, ByteArray.size]
theorem ofL_data (l : List UInt8) : (ofL l).data.toList = l := by simp [ofL]
theorem ofL_toList (l : List UInt8) : (ofL l).toList = l := by simp [ofL, ByteArray.toList_eq]
theorem ofL_inj {a b : List UInt8} (h : ofL a = ofL b) : a = b := by rw [← ofL_data a, h, ofL_data]
theorem ofL_of (s : ByteArray) : s = ofL s.data.toList := by simp [ofL]
theorem ofL_extract (l : List UInt8) (a b : Nat) : (ofL l).extract a b = ofL ((l.drop a).take (b - a)) := by
 apply ByteArray.ext
 simp [ofL, ByteArray.data_extract, List.extract_eq_take_drop]
theorem ofL_get (l : List UInt8) (k : Nat) (h : k < (ofL l).size) : (ofL l)[k] = l[k]'(by rwa [ofL_size] at h) := by
 simp [ofL, ByteArray.getElem_eq_getElem_data]
theorem results_cell_row2 {P : Program} {fn : Func} {p u : Tmp} {ty : TypeId} (h : fn.results = #[.cell p ty, .tmp u]) (tmps : Array Value) (w : World) (g : Nat) (t : TypeId) (cs : Array Value) (fr : Nat × Nat) (d : TypeDesc)
  (hp : tmps.getD p undef = .pointer (some ⟨g, 0, none⟩)) (hg : w.heap[g]? = some (.cells cs t fr))
  (hu : P.underlying ty = some d) (hd : (match d with | .struct _ | .array _ _ => true | _ => false) = true) (hi : (P.info? ty).map (·.size) = some cs.size) :
  (results fn tmps).run P w = .ok (.tuple #[.agg cs, tmps.getD u undef]) w := by
 rw [results_cell_tmp h]
 simp only [hp]
 simp [asAddr, Result.andThen, run_loadVar_row w g t ty cs fr d hg hu hd hi]
theorem al1 (w : World) (o : Obj) : Below w.heap.size w (w.alloc o) := (Below.refl _ w).alloc (Nat.le_refl _) _
theorem al2 (w : World) (o p : Obj) : Below w.heap.size w ((w.alloc o).alloc p) := (al1 w o).alloc (by simp) _
theorem al3 (w : World) (o p q : Obj) : Below w.heap.size w (((w.alloc o).alloc p).alloc q) := (al2 w o p).alloc (by simp; omega) _
theorem size_alloc (w : World) (o : Obj) : (w.alloc o).heap.size = w.heap.size + 1 := by simp
theorem size_set (w : World) (a : Addr) (v : Value) : (w.setCell a v).heap.size = w.heap.size := by simp [World.setCell]
/-- Block b holds the cells cs of a struct. -/
def Bx (w : World) (b : Nat) (T : TypeId) (cs : Array Value) : Prop := w.heap[b]? = some (.cells cs T (0, 0))
section
variable {w w' : World} {b T : Nat} {cs : Array Value}
theorem Bx.new (w : World) (T : TypeId) (cs : Array Value) : Bx (w.alloc (.cells cs T)) w.heap.size T cs := heap_alloc_new w _
theorem Bx.lt (h : Bx w b T cs) : b < w.heap.size := lt_of_some h
theorem Bx.cell (h : Bx w b T cs) (i : Nat) : w.cell? ⟨b, i, none⟩ = cs[i]? := cell_of_row w b i _ _ _ h
theorem Bx.free (h : Bx w b T cs) (i : Nat) : w.frozen? ⟨b, i, none⟩ = false := by unfold Bx at h; simp [World.frozen?, h]
theorem Bx.k2 {a0 a1 : Value} (h : Bx w b T #[a0, a1]) : w.cell? ⟨b, 0, none⟩ = some a0 ∧ w.cell? ⟨b, 1, none⟩ = some a1 := ⟨h.cell 0, h.cell 1⟩
theorem Bx.f2 {a0 a1 : Value} (h : Bx w b T #[a0, a1]) : w.frozen? ⟨b, 0, none⟩ = false ∧ w.frozen? ⟨b, 1, none⟩ = false := ⟨h.free 0, h.free 1⟩
theorem Bx.k3 {a0 a1 a2 : Value} (h : Bx w b T #[a0, a1, a2]) : w.cell? ⟨b, 0, none⟩ = some a0 ∧ w.cell? ⟨b, 1, none⟩ = some a1 ∧ w.cell? ⟨b, 2, none⟩ = some a2 := ⟨h.cell 0, h.cell 1, h.cell 2⟩
theorem Bx.below (h : Bx w b T cs) (hb : Below w.heap.size w w') : Bx w' b T cs := (hb.block b (lt_of_some h)).trans h
theorem Bx.belowB {B : Nat} (h : Bx w b T cs) (hb : Below B w w') (hB : b < B) : Bx w' b T cs := (hb.block b hB).trans h
theorem Bx.alloc (h : Bx w b T cs) (o : Obj) : Bx (w.alloc o) b T cs := h.below ((Below.refl _ w).alloc (Nat.le_refl _) o)
theorem Bx.set (h : Bx w b T cs) (i : Nat) (v : Value) : Bx (w.setCell ⟨b, i, none⟩ v) b T (cs.setIfInBounds i v) := heap_set h
theorem Bx.other (h : Bx w b T cs) {c i : Nat} {u : Value} (hb : b ≠ c) : Bx (w.setCell ⟨c, i, none⟩ u) b T cs := (Below.heap_setCell _ _ _ _ hb).trans h
end
theorem Bx.two {w w' : World} {o p : Obj} {T : TypeId} {cs : Array Value} (ho : o = .cells cs T) (hb : Below ((w.alloc o).alloc p).heap.size ((w.alloc o).alloc p) w') : Bx w' w.heap.size T cs := (hb.block _ (by simp; omega)).trans (by rw [ho]; exact heap_alloc_2 w _ _)
theorem Bx.two' {w w' : World} {o p : Obj} {T : TypeId} {cs : Array Value} (ho : p = .cells cs T) (hb : Below ((w.alloc o).alloc p).heap.size ((w.alloc o).alloc p) w') : Bx w' (w.heap.size + 1) T cs := (hb.block _ (by simp)).trans (by rw [ho]; exact heap_alloc_2' w _ _)
theorem nopeB {b : Bool} {α : Prop} (h : b = false) (k : b = true) : α := by rw [h] at k; cases k
theorem results_cell_one {P : Program} {fn : Func} {p : Tmp} {ty : TypeId} (h : fn.results = #[.cell p ty]) (tmps : Array Value) (w : World) (g : Nat) (t : TypeId) (cs : Array Value) (fr : Nat × Nat) (d : TypeDesc)
  (hp : tmps.getD p undef = .pointer (some ⟨g, 0, none⟩)) (hg : w.heap[g]? = some (.cells cs t fr))
  (hu : P.underlying ty = some d) (hd : (match d with | .struct _ | .array _ _ => true | _ => false) = true) (hi : (P.info? ty).map (·.size) = some cs.size) :
  (results fn tmps).run P w = .ok (.agg cs) w := by
 have hp' : tmps[p]?.getD undef = .pointer (some ⟨g, 0, none⟩) := by simpa using hp
 simp only [results, h]
 simp [hp', asAddr, run_loadVar_row w g t ty cs fr d hg hu hd hi]
theorem bx_ret {w : World} {b T : Nat} {cs : Array Value} (h : Bx w b T cs) {P : Program} {fn : Func} {q : Tmp} {ty : TypeId} {d : TypeDesc} (hf : fn.results = #[.cell q ty]) (tmps : Array Value) (hq : tmps.getD q undef = .pointer (some ⟨b, 0, none⟩))
  (hu : P.underlying ty = some d) (hd : (match d with | .struct _ | .array _ _ => true | _ => false) = true) (hi : (P.info? ty).map (·.size) = some cs.size) : (results fn tmps).run P w = .ok (.agg cs) w :=
 results_cell_one hf tmps w b T cs (0, 0) d hq h hu hd hi
theorem bx_ret2 {w : World} {b T : Nat} {cs : Array Value} (h : Bx w b T cs) {P : Program} {fn : Func} {q r : Tmp} {ty : TypeId} {d : TypeDesc} (hf : fn.results = #[.cell q ty, .tmp r]) (tmps : Array Value) (hq : tmps.getD q undef = .pointer (some ⟨b, 0, none⟩))
  (hu : P.underlying ty = some d) (hd : (match d with | .struct _ | .array _ _ => true | _ => false) = true) (hi : (P.info? ty).map (·.size) = some cs.size) : (results fn tmps).run P w = .ok (.tuple #[.agg cs, tmps.getD r undef]) w :=
 results_cell_row2 hf tmps w b T cs (0, 0) d hq h hu hd hi
theorem exec_alloc {P : Program} {ρ : Operand → Value} {o : Oper} {w : World} (T : TypeId) (ho : o.op = .alloc T) {zv : Value} {z by_ : Nat} (hinfo : (P.info? T).map (fun i => (i.zero, i.size, i.bytes)) = some (some zv, z, by_)) :
  (execOp ρ o).run P w = .ok (.value (.pointer (some ⟨w.heap.size, 0, none⟩))) (w.alloc (.cells zv.cells T)) := by
 obtain ⟨i0, hi, hz0, hz1, hz2⟩ := info_parts hinfo
 have hzv : (zeroValue T).run P w = .ok zv w := by simp [zeroValue, typeInfo, hi, hz0]
 unfold execOp
 rw [ho]
 simp [go_sem, hzv]
theorem stepI_store_row {P : Program} {ops : Array Oper} {Q : Exit → Act → World → Prop} {I : (Nat → Bool) → (Nat → Value) → World → Prop} {L : Nat → Bool} {vs : Nat → Value} {i : Nat} {o : Oper} {a : Act} {w : World} (hw : Region.wanted o (yielded ops a.tmps) = true)
  (ty : TypeId) (p q : Tmp) (ho : o.op = .store ty (.tmp p) (.tmp q)) (b : Nat) (cells : Array Value) (hp : a.tmps[p]?.getD undef = .pointer (some ⟨b, 0, none⟩)) (hq : a.tmps[q]?.getD undef = .agg cells)
  (old : Array Value) (hb : Bx w b ty old) (hi : (P.info? ty).map (·.size) = some cells.size) (hs : old.size = cells.size) (h1 : cells.all (·.oneCell') = true) (h : I (updB L i) (updV vs i undef) (w.setRow b cells)) : StepI P ops Q I L vs i o a w :=
 stepI_on hw (wp_store_row ty (.tmp p) (.tmp q) ho b cells (by simp [Act.eval, hp]) (by simp [Act.eval, hq]) ty old hb hi hs h1 ⟨undef, rfl, h⟩)
theorem Bx.row {w : World} {b T : Nat} {old cs : Array Value} (h : Bx w b T old) : Bx (w.setRow b cs) b T cs := setRow_heap w b old cs T (0, 0) h
theorem Bx.rowO {w : World} {b k T : Nat} {old cs : Array Value} (h : Bx w b T old) (hk : b ≠ k) : Bx (w.setRow k cs) b T old := (setRow_other w k b cs hk).trans h
end Go.Proofs.YtnainhpcmoekcaaGreatDoor
