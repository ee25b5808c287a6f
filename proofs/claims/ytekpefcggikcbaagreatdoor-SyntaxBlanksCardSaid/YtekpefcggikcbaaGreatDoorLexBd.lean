/- strings.Builder at this program: copyCheck and WriteByte (the shelf's contracts of these two do not lay here). -/
import Derived.Test.YtekpefcggikcbaaGreatDoorMLayLex
import Derived.Test.YtekpefcggikcbaaGreatDoorMLexSp
import Derived.Shelf.Strings.Builder1
namespace Go.Proofs.YtekpefcggikcbaaGreatDoor
open Go.RowKit

theorem size_bd2 : (Tryz.prog.info? 168).map (·.size) = some 2 := by kernel_rfl
theorem lies_bd : liesAt Tryz.prog Tryz.prog.depth 168 (2 / Tryz.prog.cellsOf 168) 0 168 1 = true := by kernel_rfl
def BdPost (B b : Nat) (bs : List Value) (w : World) (e : Ending) (w' : World) : Prop := e = .returned (.tuple #[]) ∧ Lib.BuilderAt 168 5 B b (.pointer (some ⟨b, 0, none⟩)) bs w' ∧ Below B w w'
set_option maxRecDepth 100000 in
set_option maxHeartbeats 1000000 in
theorem check_used (B b : Nat) (bs : List Value) (w : World) (h : Lib.BuilderAt 168 5 B b (.pointer (some ⟨b, 0, none⟩)) bs w) : Calls Tryz.prog 176 #[.pointer (some ⟨b, 0, none⟩)] w (BdPost B b bs w) := by
  obtain ⟨j, hj, -⟩ := Option.map_eq_some_iff.1 size_bd2
  have h0 := h.cell0
  have H := Lib.hid h; clear h
  go_enter Tryz.func176, Tryz.ntmps176
  go_wp2
  rw [Lib.run_neq_ptr_same w _ Tryz.underlying166 hj]
  go_wp2
  exact bodyPost_ret (v := .tuple #[]) (by simp [results, Tryz.results176, go_sem]) rfl ⟨rfl, H.out, Below.refl _ _⟩
set_option maxRecDepth 100000 in
set_option maxHeartbeats 1000000 in
theorem check_new (B b : Nat) (bs : List Value) (w : World) (h : Lib.BuilderAt 168 5 B b (.pointer none) bs w) : Calls Tryz.prog 176 #[.pointer (some ⟨b, 0, none⟩)] w (BdPost B b bs w) := by
  obtain ⟨j, hj, hjs⟩ := Option.map_eq_some_iff.1 size_bd2
  have h0 := h.cell0
  have hsh := h.shape
  have hfz := h.frozen0
  have H := Lib.hid h; clear h
  go_enter Tryz.func176, Tryz.ntmps176
  go_wp2
  rw [Lib.run_to_unsafe w ⟨b, 0, none⟩ Tryz.underlying166 Tryz.underlying263 hj (by rw [hjs]; decide) hsh (Nat.zero_lt_succ 1)]
  simp only [Result.andThen]
  rw [Oper.upon_value]
  go_wp2
  rw [run_callFunc_extern Tryz.func212 (by kernel_rfl) (by kernel_rfl) (by kernel_rfl) (e := Extern.AbiNoEscape.same) (by kernel_rfl)]
  rw [Lib.run_noEscape]
  simp only [Result.andThen]
  rw [Oper.upon_value]
  go_wp2
  rw [Lib.run_from_unsafe w ⟨b, 0, none⟩ Tryz.underlying263 Tryz.underlying166 hj hsh lies_bd]
  simp only [Result.andThen]
  rw [Oper.upon_value]
  go_wp2
  exact bodyPost_ret (v := .tuple #[]) (by simp [results, Tryz.results176, go_sem]) rfl ⟨rfl, H.out.used _, (Below.refl B w).setCell (p := ⟨b, 0, none⟩) H.out.1 _⟩
theorem check_any (B b : Nat) (bs : List Value) (w : World) (h : Lib.IsBuilder 168 5 B b bs w) : Calls Tryz.prog 176 #[.pointer (some ⟨b, 0, none⟩)] w (BdPost B b bs w) := by
  rcases h with h | h
  · exact check_new B b bs w h
  · exact check_used B b bs w h
def WbPost (B b : Nat) (bs : List Value) (w : World) (e : Ending) (w' : World) : Prop := e = .returned .nilIface ∧ Lib.IsBuilder 168 5 B b bs w' ∧ Below B w w'
set_option maxRecDepth 100000 in
set_option maxHeartbeats 1000000 in
theorem write_any (B b : Nat) (bs : List Value) (c : Int) (w : World) (h : Lib.IsBuilder 168 5 B b bs w) (hlen : bs.length + 1 ≤ 140737488355000) (hBw : B ≤ w.heap.size) :
    Calls Tryz.prog 121 #[.pointer (some ⟨b, 0, none⟩), .int .u8 c] w (WbPost B b (bs ++ [.int .u8 c]) w) := by
  have H := Lib.hid h; clear h
  go_enter Tryz.func121, Tryz.ntmps121
  go_wp2_with fail
  refine (check_any B b bs w H.out).mono ?_
  rintro e w1 ⟨rfl, h1, hb1⟩
  obtain ⟨hB, v, hbk, hown, hne⟩ := h1
  have c0 : w1.cell? ⟨b, 0, none⟩ = some (.pointer (some ⟨b, 0, none⟩)) := by rw [Lib.cell_of_heap hbk]; rfl
  have c1 : w1.cell? ⟨b, 1, none⟩ = some v := by rw [Lib.cell_of_heap hbk]; rfl
  have HOW := Lib.hid hown
  have HBK := Lib.hid hbk
  have HB1 := Lib.hid hb1
  have hB1 : B ≤ w1.heap.size := Nat.le_trans hBw hb1.size
  have hlen2 : Room2 bs.length := by unfold Room2; omega
  clear hown hbk hb1 H
  go_wp2_with (at_builtin; refine app1 rfl _ _ 41 rfl 5 (.int .u8 0) info_u8 Tryz.underlying41 rfl B _ _ _ rfl HOW.out _ rfl rfl hlen2 hB1 ?_; intro v' w2 hown2 hf2; have HO2 := Lib.hid hown2; have HF2 := Lib.hid hf2; clear hown2 hf2; obtain ⟨g, cap, hg, -, -, -⟩ := own_shape HO2.out (by omega); subst hg; have hbk2 : w2.heap[b]? = some (.cells #[.pointer (some ⟨b, 0, none⟩), v] 168 (0, 0)) := HF2.out.keeps HBK.out (by decide); have d0 : w2.cell? ⟨b, 0, none⟩ = some (.pointer (some ⟨b, 0, none⟩)) := (by rw [Lib.cell_of_heap hbk2]; rfl); have d1 : w2.cell? ⟨b, 1, none⟩ = some v := (by rw [Lib.cell_of_heap hbk2]; rfl); have f1 : w2.frozen? ⟨b, 1, none⟩ = false := Lib.frozen_of_heap hbk2 1; have HBK2 := Lib.hid hbk2; clear hbk2)
  go_ret
  refine ⟨rfl, .inr ?_, ?_⟩
  · exact Lib.BuilderAt.put (T := 168) (e := 5) hB HBK2.out (bs' := bs ++ [.int .u8 c]) (by simpa using HO2.out) (by decide)
  · exact (HB1.out.trans (HF2.out.below hB1)).setCell (p := ⟨b, 1, none⟩) hB _
end Go.Proofs.YtekpefcggikcbaaGreatDoor
