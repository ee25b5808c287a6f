/- Layer 9: the contracts of the scanner's methods for names and marks. -/
import Derived.Test.YtolanmdckdjfeaaLexSkip
import Derived.Laws.ResultCell
import Derived.Laws.Rows
namespace Go.Proofs.Ytolanmdckdjfeaa
open Go.RowKit

theorem results_cell_row2 {P : Program} {fn : Func} {p u : Tmp} {ty : TypeId} (h : fn.results = #[.cell p ty, .tmp u]) (tmps : Array Value) (w : World) (g : Nat) (t : TypeId) (cs : Array Value) (fr : Nat × Nat) (d : TypeDesc)
    (hp : tmps.getD p undef = .pointer (some ⟨g, 0, none⟩)) (hg : w.heap[g]? = some (.cells cs t fr))
    (hu : P.underlying ty = some d) (hd : (match d with | .struct _ | .array _ _ => true | _ => false) = true) (hi : (P.info? ty).map (·.size) = some cs.size) :
    (results fn tmps).run P w = .ok (.tuple #[.agg cs, tmps.getD u undef]) w := by
  rw [results_cell_tmp h]
  simp only [hp]
  simp [asAddr, Result.andThen, run_loadVar_row w g t ty cs fr d hg hu hd hi]
def tokV (k : Nat) (t : List UInt8) (v p : Nat) : Value := .agg #[.int .i64 (k : Int), .string (ofL t), .int .i64 (v : Int), .int .i64 (p : Int)]
def TokPost (w : World) (g : Nat) (l : List UInt8) (k : Nat) : Tk → Ending → World → Prop
  | .err x, e, w' => e = .returned (.tuple #[tokV 0 [] 0 0, .int .i64 (x : Int)]) ∧ Only g w w'
  | .ok kd t v n, e, w' => e = .returned (.tuple #[tokV kd t v 0, .int .i64 0]) ∧ Scn w' g l (k + n) ∧ Only g w w'
theorem TokPost.bad {w w' : World} {g : Nat} {l : List UInt8} {k x : Nat} {r : Tk} {e : Ending} (hr : r = .err x) (he : e = .returned (.tuple #[tokV 0 [] 0 0, .int .i64 (x : Int)])) (ho : Only g w w') : TokPost w g l k r e w' := by
  subst hr; exact ⟨he, ho⟩
theorem TokPost.good {w w' : World} {g : Nat} {l : List UInt8} {k kd v n : Nat} {t : List UInt8} {r : Tk} {e : Ending} (hr : r = .ok kd t v n) (he : e = .returned (.tuple #[tokV kd t v 0, .int .i64 0])) (hs : Scn w' g l (k + n)) (ho : Only g w w') : TokPost w g l k r e w' := by
  subst hr; exact ⟨he, hs, ho⟩
section
variable {w : World} {g k : Nat} {l : List UInt8}
theorem Scn.alloc (h : Scn w g l k) (o : Obj) : Scn (w.alloc o) g l k := h.keep (Below.heap_alloc _ _ _ h.lt)
theorem Scn.other (h : Scn w g l k) {b i : Nat} {v : Value} (hb : b ≠ g) : Scn (w.setCell ⟨b, i, none⟩ v) g l k := h.keep (Below.heap_setCell _ _ _ _ (fun e => hb e.symm))
theorem Only.own {g : Nat} {a w : World} (h : Only g a w) {b : Nat} (hb : a.heap.size ≤ b) (i : Nat) (v : Value) : Only g a (w.setCell ⟨b, i, none⟩ v) :=
  ⟨h.os, h.tape, h.output, by simpa [World.setCell] using h.size, fun k hk hn => (Below.heap_setCell _ _ _ _ (by show k ≠ b; omega)).trans (h.block k hk hn)⟩
/-- A token's box. -/
def TBox (w : World) (b : Nat) (kd : Nat) (t : List UInt8) (v p : Nat) : Prop := w.heap[b]? = some (.cells #[.int .i64 (kd : Int), .string (ofL t), .int .i64 (v : Int), .int .i64 (p : Int)] 35 (0, 0))
theorem TBox.cell {w : World} {b kd v p : Nat} {t : List UInt8} (h : TBox w b kd t v p) (i : Nat) : w.cell? ⟨b, i, none⟩ = (#[Value.int .i64 (kd : Int), .string (ofL t), .int .i64 (v : Int), .int .i64 (p : Int)])[i]? := cell_of_row w b i _ _ _ h
theorem TBox.free {w : World} {b kd v p : Nat} {t : List UInt8} (h : TBox w b kd t v p) (i : Nat) : w.frozen? ⟨b, i, none⟩ = false := by unfold TBox at h; simp [World.frozen?, h]
theorem TBox.facts {w : World} {b kd v p : Nat} {t : List UInt8} (h : TBox w b kd t v p) : w.cell? ⟨b, 0, none⟩ = some (.int .i64 (kd : Int)) ∧ w.cell? ⟨b, 1, none⟩ = some (.string (ofL t)) ∧ w.cell? ⟨b, 2, none⟩ = some (.int .i64 (v : Int)) ∧ w.cell? ⟨b, 3, none⟩ = some (.int .i64 (p : Int)) ∧
    w.frozen? ⟨b, 0, none⟩ = false ∧ w.frozen? ⟨b, 1, none⟩ = false ∧ w.frozen? ⟨b, 2, none⟩ = false ∧ w.frozen? ⟨b, 3, none⟩ = false := ⟨h.cell 0, h.cell 1, h.cell 2, h.cell 3, h.free 0, h.free 1, h.free 2, h.free 3⟩
theorem TBox.keep {w w' : World} {g b kd v p : Nat} {t : List UInt8} (h : TBox w b kd t v p) (ho : Only g w w') (hb : b ≠ g) : TBox w' b kd t v p := (ho.block b (lt_of_some h) hb).trans h
theorem TBox.new (w : World) : TBox (w.alloc (.cells #[.int .i64 0, .string { data := #[] }, .int .i64 0, .int .i64 0] 35)) w.heap.size 0 [] 0 0 := heap_alloc_new w _
theorem TBox.store {w : World} {b kd v p : Nat} {t : List UInt8} (h : TBox w b kd t v p) (kd' v' p' : Nat) (t' : List UInt8) :
    TBox ((((w.setCell ⟨b, 0, none⟩ (.int .i64 (kd' : Int))).setCell ⟨b, 1, none⟩ (.string (ofL t'))).setCell ⟨b, 2, none⟩ (.int .i64 (v' : Int))).setCell ⟨b, 3, none⟩ (.int .i64 (p' : Int))) b kd' t' v' p' := by
  unfold TBox at h ⊢
  rw [heap_set (heap_set (heap_set (heap_set h)))]
  rfl
theorem TBox.result {W : World} {b kd v p : Nat} {t : List UInt8} (h : TBox W b kd t v p) {fn : Func} {q u : Tmp} (hf : fn.results = #[.cell q 35, .tmp u]) (tmps : Array Value) (hq : tmps.getD q undef = .pointer (some ⟨b, 0, none⟩)) (x : Value) (hx : tmps.getD u undef = x) :
    (results fn tmps).run Try.prog W = .ok (.tuple #[tokV kd t v p, x]) W := by
  subst hx
  exact results_cell_row2 hf tmps W b 35 _ (0, 0) _ hq h Try.underlying35 rfl (by kernel_rfl)
set_option maxHeartbeats 400000 in
theorem name_any (h : Scn w g l k) : Calls Try.prog 46 #[.pointer (some ⟨g, 0, none⟩)] w (TokPost w g l k (tkName (l.drop k))) := by
  obtain ⟨n, hn⟩ : ∃ n, spn cN (l.drop k) = n := ⟨_, rfl⟩
  obtain ⟨k', hk'⟩ : ∃ k', k + n = k' := ⟨_, rfl⟩
  have hnl : n ≤ l.length - k := by have := spn_le cN (l.drop k); simp at this; omega
  have hsz : (ofL ((l.drop k).take n)).size = n := by rw [ofL_size, List.length_take, List.length_drop]; omega
  have HN := Lib.hid hn
  have HK := Lib.hid hk'
  have hroom := h.room
  have HZ := Lib.hid hsz
  have hlt := h.lt
  clear hn hk' hsz
  have H := Lib.hid h; clear h
  by_cases h16 : 16 < n
  · have hT := Lib.hid (show tkName (l.drop k) = .err 6 by unfold tkName; rw [HN.out, if_pos h16])
    have h16z : 16 < (ofL ((l.drop k).take n)).size := by rw [HZ.out]; exact h16
    go_enter Try.func46, Try.ntmps46
    go_wp2_with fail
    refine (take_any _ _ sort_namePart ent_namePart (H.out.alloc _) n k' HN.out HK.out).mono ?_; rintro e w1 ⟨rfl, S1, O1⟩
    have HT := Lib.hid ((TBox.new w).keep O1 (by omega))
    obtain ⟨d0, d1, d2, d3, f0, f1, f2, f3⟩ := HT.out.facts
    have HS := Lib.hid S1
    have HO := Lib.hid O1
    clear S1 O1
    go_wp2
    refine bodyPost_ret (v := .tuple #[tokV 0 [] 0 0, .int .i64 6]) (TBox.result ((HT.out).store 0 0 0 []) Try.results46 _ rfl _ rfl) rfl (TokPost.bad hT.out rfl ?_)
    exact (((((((Only.refl g w).alloc _).trans HO.out).own (Nat.le_refl _) _ _).own (Nat.le_refl _) _ _).own (Nat.le_refl _) _ _).own (Nat.le_refl _) _ _)
  · have hT := Lib.hid (show tkName (l.drop k) = .ok 1 ((l.drop k).take n) 0 n by unfold tkName; rw [HN.out, if_neg h16])
    have h16z : ¬ 16 < (ofL ((l.drop k).take n)).size := by rw [HZ.out]; exact h16
    go_enter Try.func46, Try.ntmps46
    go_wp2_with fail
    refine (take_any _ _ sort_namePart ent_namePart (H.out.alloc _) n k' HN.out HK.out).mono ?_; rintro e w1 ⟨rfl, S1, O1⟩
    have HT := Lib.hid ((TBox.new w).keep O1 (by omega))
    obtain ⟨d0, d1, d2, d3, f0, f1, f2, f3⟩ := HT.out.facts
    have HS := Lib.hid S1
    have HO := Lib.hid O1
    clear S1 O1
    go_wp2
    refine bodyPost_ret (v := .tuple #[tokV 1 ((l.drop k).take n) 0 0, .int .i64 0]) (TBox.result ((HT.out).store 1 0 0 ((l.drop k).take n)) Try.results46 _ rfl _ rfl) rfl (TokPost.good hT.out rfl ?_ ?_)
    · rw [HK.out]
      exact (((HS.out.other (by omega)).other (by omega)).other (by omega)).other (by omega)
    · exact (((((((Only.refl g w).alloc _).trans HO.out).own (Nat.le_refl _) _ _).own (Nat.le_refl _) _ _).own (Nat.le_refl _) _ _).own (Nat.le_refl _) _ _)
end
end Go.Proofs.Ytolanmdckdjfeaa
