/- nfa's exported Closure and Step at a valid automaton. -/
import Derived.Test.YtockgbilbnheaaaDoorNfaFw
namespace Go.Proofs.YtockgbilbnheaaaDoor
open Go.RowKit

def ExP (P : Nat → Prop) (w : World) (e : Ending) (w' : World) : Prop := ∃ v ws, e = .returned (.tuple #[v, .int .i64 0]) ∧ SetIs w' v ws P ∧ Below w.heap.size w w'
set_option maxRecDepth 100000 in
set_option maxHeartbeats 2000000 in
theorem exclosure_ok (S : Nat) (st : List Int) (fin : List Bool) (ar : List Ac) (sv fv v : Value) (A : Option Addr) (c : Nat) (l : List Int) (w : World) (h : VN S st fin ar) (hs : Sl iv w sv st) (hf : Sl bl w fv fin) (ha : Acs w v ar) (hl : Sl iv w (.slice A l.length c) l) (hll : l.length ≤ 1000000) (hbd : ∀ x ∈ l, 0 ≤ x ∧ x < (S : Int)) :
  Calls Tryd.prog 9 #[.agg #[.int .i64 (S : Int), sv, fv, v], .slice A l.length c] w (ExP (fun n => Rc ar l n) w) := by
 have hbw : Below w.heap.size w (w.alloc (.cells #[.int .i64 (S : Int), sv, fv, v] 32)) := (Below.refl _ w).alloc (Nat.le_refl _) _
 obtain ⟨W, hW⟩ : ∃ W, W = w.alloc (.cells #[.int .i64 (S : Int), sv, fv, v] 32) := ⟨_, rfl⟩
 have hWb : W.heap[w.heap.size]? = some (.cells #[.int .i64 (S : Int), sv, fv, v] 32 (0, 0)) := by rw [hW]; exact heap_alloc_new w _
 rw [← hW] at hbw
 have KB := Lib.hid (show ∀ w', Below W.heap.size W w' → Below w.heap.size w w' from fun w' h => below_ext2 hbw h)
 have KX := Lib.hid (show ∀ w', Below W.heap.size W w' → w'.cell? ⟨w.heap.size, 0, none⟩ = some (.int .i64 (S : Int)) ∧ w'.cell? ⟨w.heap.size, 1, none⟩ = some sv ∧ w'.cell? ⟨w.heap.size, 2, none⟩ = some fv ∧ w'.cell? ⟨w.heap.size, 3, none⟩ = some v from fun w' h => by
  have g1 := (h.block _ (lt_of_some hWb)).trans hWb
  exact ⟨cell_of_row _ _ 0 _ _ _ g1, cell_of_row _ _ 1 _ _ _ g1, cell_of_row _ _ 2 _ _ _ g1, cell_of_row _ _ 3 _ _ _ g1⟩)
 have Hck := Lib.hid (check_ok S st fin ar sv fv v A c l W h (hs.below hbw) (hf.below hbw) (ha.below hbw) (hl.below hbw) hll hbd)
 have Hv := Lib.hid h; have Ha := Lib.hid ha; have Hl := Lib.hid hl; have Hbd := Lib.hid hbd; have HW := Lib.hid hW
 obtain ⟨x0, x1, x2, x3⟩ := KX.out _ (Below.refl _ _)
 rw [hW] at x0 x1 x2 x3
 clear h hs hf ha hl hbd hbw hW hWb
 go_enter Tryd.func9, Tryd.ntmps9
 go_wp2_with fail
 rw [← HW.out]
 refine Hck.out.mono ?_
 rintro e w1 ⟨rfl, hb1⟩
 have B1 := Lib.hid hb1; clear hb1 x0 x1 x2 x3
 obtain ⟨x0, x1, x2, x3⟩ := KX.out _ B1.out
 go_wp2_with fail
 refine (closure_any S sv fv v ar A c l w1 (Ha.out.below (KB.out _ B1.out)) Hv.out.va Hv.out.few (Hl.out.below (KB.out _ B1.out)) (by omega) Hbd.out).mono ?_
 rintro e w2 ⟨v2, ws2, rfl, h2, hb2⟩
 have H2 := Lib.hid h2
 have B2 := Lib.hid (KB.out _ (below_ext2 B1.out hb2)); clear h2 hb2 x0 x1 x2 x3
 go_wp2
 go_ret2
 exact ⟨v2, ws2, rfl, H2.out, B2.out⟩
set_option maxRecDepth 100000 in
set_option maxHeartbeats 4000000 in
theorem exstep_ok (S : Nat) (st : List Int) (fin : List Bool) (ar : List Ac) (sv fv v : Value) (A : Option Addr) (c : Nat) (l : List Int) (letter : Int) (w : World) (h : VN S st fin ar) (hs : Sl iv w sv st) (hf : Sl bl w fv fin) (ha : Acs w v ar) (hl : Sl iv w (.slice A l.length c) l) (hll : l.length ≤ 1000000) (hbd : ∀ x ∈ l, 0 ≤ x ∧ x < (S : Int)) (hT : Tab w) :
  Calls Tryd.prog 11 #[.agg #[.int .i64 (S : Int), sv, fv, v], .slice A l.length c, .int .i64 letter] w (ExP (fun n => Sp ar (Cl ar (fun x => x ∈ l)) letter n) w) := by
 have hbw : Below w.heap.size w (w.alloc (.cells #[.int .i64 (S : Int), sv, fv, v] 32)) := (Below.refl _ w).alloc (Nat.le_refl _) _
 obtain ⟨W, hW⟩ : ∃ W, W = w.alloc (.cells #[.int .i64 (S : Int), sv, fv, v] 32) := ⟨_, rfl⟩
 have hWb : W.heap[w.heap.size]? = some (.cells #[.int .i64 (S : Int), sv, fv, v] 32 (0, 0)) := by rw [hW]; exact heap_alloc_new w _
 rw [← hW] at hbw
 have KB := Lib.hid (show ∀ w', Below W.heap.size W w' → Below w.heap.size w w' from fun w' h => below_ext2 hbw h)
 have KX := Lib.hid (show ∀ w', Below W.heap.size W w' → w'.cell? ⟨w.heap.size, 0, none⟩ = some (.int .i64 (S : Int)) ∧ w'.cell? ⟨w.heap.size, 1, none⟩ = some sv ∧ w'.cell? ⟨w.heap.size, 2, none⟩ = some fv ∧ w'.cell? ⟨w.heap.size, 3, none⟩ = some v from fun w' h => by
  have g1 := (h.block _ (lt_of_some hWb)).trans hWb
  exact ⟨cell_of_row _ _ 0 _ _ _ g1, cell_of_row _ _ 1 _ _ _ g1, cell_of_row _ _ 2 _ _ _ g1, cell_of_row _ _ 3 _ _ _ g1⟩)
 have Hck := Lib.hid (check_ok S st fin ar sv fv v A c l W h (hs.below hbw) (hf.below hbw) (ha.below hbw) (hl.below hbw) hll hbd)
 have Hv := Lib.hid h; have Ha := Lib.hid ha; have Hl := Lib.hid hl; have Hbd := Lib.hid hbd; have HW := Lib.hid hW; have HT := Lib.hid hT
 have hT0 := hT.size
 obtain ⟨x0, x1, x2, x3⟩ := KX.out _ (Below.refl _ _)
 rw [hW] at x0 x1 x2 x3
 clear h hs hf ha hl hbd hbw hW hWb hT
 go_enter Tryd.func11, Tryd.ntmps11
 go_wp2_with fail
 rw [← HW.out]
 refine Hck.out.mono ?_
 rintro e w1 ⟨rfl, hb1⟩
 have B1 := Lib.hid hb1; clear hb1 x0 x1 x2 x3
 obtain ⟨x0, x1, x2, x3⟩ := KX.out _ B1.out
 go_wp2_with fail
 have KY := Lib.hid (show ∀ w', Below w1.heap.size w1 w' → w'.cell? ⟨w.heap.size, 0, none⟩ = some (.int .i64 (S : Int)) ∧ w'.cell? ⟨w.heap.size, 1, none⟩ = some sv ∧ w'.cell? ⟨w.heap.size, 2, none⟩ = some fv ∧ w'.cell? ⟨w.heap.size, 3, none⟩ = some v from fun w' h => KX.out _ (below_ext2 B1.out h))
 go_region_held3 (fun w' => w'.cell? ⟨w.heap.size, 0, none⟩ = some (.int .i64 (S : Int)) ∧ w'.cell? ⟨w.heap.size, 1, none⟩ = some sv ∧ w'.cell? ⟨w.heap.size, 2, none⟩ = some fv ∧ w'.cell? ⟨w.heap.size, 3, none⟩ = some v)
  (first | (exact KY.out _ hb3) | (exact KY.out _ hb2) | (exact KY.out _ (Below.drewN' (Below.refl _ w1) 1)))
  (first
   | (go_at_call 23; refine (closure_any S sv fv v ar A c l _ (Ha.out.below (KB.out _ (Below.drewN' B1.out 1))) Hv.out.va Hv.out.few (Hl.out.below (KB.out _ (Below.drewN' B1.out 1))) (by omega) Hbd.out).mono ?_; rintro e w2 ⟨v2, ws2, rfl, h2, hb2'⟩; have hb2 : Below w1.heap.size w1 w2 := (Below.drewN' (Below.refl _ w1) 1).trans hb2'; have H2 := Lib.hid h2)
   | (go_at_call 26; refine (step_any S sv fv v v2 ar ws2 letter _ (Ha.out.below (KB.out _ (below_ext2 B1.out hb2))) Hv.out.va Hv.out.few H2.out.st.sl H2.out.wds H2.out.len (HT.out.below (KB.out _ (below_ext2 B1.out hb2)) hT0)).mono ?_; rintro e w3 ⟨v3, ws3, rfl, h3, hb3'⟩; have hb3 : Below w1.heap.size w1 w3 := below_ext2 hb2 hb3'; have H3 := Lib.hid h3))
 have B3 := Lib.hid (KB.out _ (below_ext2 B1.out hb3))
 have Hfin := Lib.hid (show SetIs w3 v3 ws3 (fun n => Sp ar (Cl ar (fun x => x ∈ l)) letter n) from ⟨H3.out.st, H3.out.can, H3.out.wds, H3.out.len, fun n => (H3.out.has n).trans (Sp.congr fun x => (H2.out.els (P := fun x => Rc ar l x) (fun n hn => by have := (Cl.bd Hv.out.va (fun n hn => Hbd.out n hn) (rc_cl.1 hn)).1; exact this) x).trans rc_cl)⟩)
 clear hb2 hb2' hb3 hb3' h2 h3 H2 H3 x0 x1 x2 x3
 go_wp2
 go_ret2
 exact ⟨v3, ws3, rfl, Hfin.out, B3.out⟩
end Go.Proofs.YtockgbilbnheaaaDoor
