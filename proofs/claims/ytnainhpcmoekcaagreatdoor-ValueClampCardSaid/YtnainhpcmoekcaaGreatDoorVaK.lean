/- value: strings.Builder in a block of its own: WriteByte, Len, String (tools/gen_vk.py). -/
import Derived.Test.YtnainhpcmoekcaaGreatDoorVaW
import Derived.Shelf.Strings.Builder1
import Derived.Lib.AppendStr
import Derived.Lib.UnsafeStr
namespace Go.Proofs.YtnainhpcmoekcaaGreatDoor
open Go.RowKit

/-- w' is w, but for block g, for new blocks and for blocks of bytes from B on. -/
structure Pk (g B : Nat) (w w' : World) : Prop where
 os : w'.os = w.os
 tape : w'.tape = w.tape
 output : w'.output = w.output
 size : w.heap.size ≤ w'.heap.size
 block : ∀ k, k < w.heap.size → k ≠ g → (k < B ∨ ∀ cs fr, w.heap[k]? ≠ some (.cells cs 5 fr)) → w'.heap[k]? = w.heap[k]?
section
variable {g B : Nat} {w w' : World}
theorem Pk.refl (g B : Nat) (w : World) : Pk g B w w := ⟨rfl, rfl, rfl, Nat.le_refl _, fun _ _ _ _ => rfl⟩
theorem Pk.trans {a b c : World} (h : Pk g B a b) (k : Pk g B b c) : Pk g B a c :=
 ⟨k.os.trans h.os, k.tape.trans h.tape, k.output.trans h.output, Nat.le_trans h.size k.size, fun i hi hg hn => by
  have h1 := h.block i hi hg hn
  rw [k.block i (Nat.lt_of_lt_of_le hi h.size) hg (by rw [h1]; exact hn), h1]⟩
theorem Pk.below {a b c : World} (h : Pk g B a b) (hb : Below b.heap.size b c) : Pk g B a c := h.trans ⟨hb.os, hb.tape, hb.output, hb.size, fun k hk _ _ => hb.block k hk⟩
theorem Pk.alloc {a b : World} (h : Pk g B a b) (o : Obj) : Pk g B a (b.alloc o) := h.below ((Below.refl _ _).alloc (Nat.le_refl _) o)
theorem Pk.set {a b : World} (h : Pk g B a b) (i : Nat) (v : Value) : Pk g B a (b.setCell ⟨g, i, none⟩ v) :=
 h.trans ⟨rfl, rfl, rfl, by simp [World.setCell], fun k _ hk _ => Below.heap_setCell _ _ _ _ hk⟩
theorem Pk.frm {a b c : World} (h : Pk g B a b) (hf : Frm 5 B b c) : Pk g B a c := h.trans ⟨hf.os, hf.tape, hf.output, hf.size, fun k hk _ hn => hf.block k hk hn⟩
end
/-- A builder in block g; what it has written: l. Its bytes lie from B on. -/
structure Pt (w : World) (B g : Nat) (l : Bs) : Prop where
 blk : ∃ a v, (a = .pointer none ∨ a = .pointer (some ⟨g, 0, none⟩)) ∧ w.heap[g]? = some (.cells #[a, v] 86 (0, 0)) ∧ w.ownsRow B 5 1 v l.length (Lib.byteCells l) ∧ (l = [] → v = .slice none 0 0)
 gB : g < B
 hB : B ≤ w.heap.size
section
variable {g B : Nat} {l : Bs} {w w' : World}
theorem Pt.lt (h : Pt w B g l) : g < w.heap.size := by obtain ⟨a, v, _, h1, _⟩ := h.blk; exact lt_of_some h1
theorem Pt.keep (h : Pt w B g l) (hs : w.heap.size ≤ w'.heap.size) (hb : ∀ k, k < w.heap.size → (k = g ∨ (B ≤ k ∧ ∃ cs fr, w.heap[k]? = some (.cells cs 5 fr))) → w'.heap[k]? = w.heap[k]?) : Pt w' B g l := by
 obtain ⟨a, v, h1, h2, h3, h4⟩ := h.blk
 refine ⟨⟨a, v, h1, (hb g (lt_of_some h2) (.inl rfl)).trans h2, ⟨h3.1, ?_⟩, h4⟩, h.gB, Nat.le_trans h.hB hs⟩
 rcases h3.2 with h5 | ⟨q, cap, cur, hv, hq, hh, hr⟩
 ·exact .inl h5
 ·exact .inr ⟨q, cap, cur, hv, hq, (hb q (lt_of_some hh) (.inr ⟨hq, _, _, hh⟩)).trans hh, hr⟩
theorem Pt.below (h : Pt w B g l) (hb : Below w.heap.size w w') : Pt w' B g l := h.keep hb.size fun k hk _ => hb.block k hk
theorem Pt.set (h : Pt w B g l) {c i : Nat} {v : Value} (hc : c < B) (hg : c ≠ g) : Pt (w.setCell ⟨c, i, none⟩ v) B g l := h.keep (by simp [World.setCell]) fun k _ hk => Below.heap_setCell _ _ _ _ (by show k ≠ c; omega)
theorem size_bd : (Tryz.prog.info? 86).map (·.size) = some 2 := by kernel_rfl
theorem lies_pt : liesAt Tryz.prog Tryz.prog.depth 86 (2 / Tryz.prog.cellsOf 86) 0 86 1 = true := by kernel_rfl
def CkPost (B g : Nat) (l : Bs) (w : World) (e : Ending) (w' : World) : Prop := e = .returned (.tuple #[]) ∧ (∃ v, w'.heap[g]? = some (.cells #[.pointer (some ⟨g, 0, none⟩), v] 86 (0, 0)) ∧ w'.ownsRow B 5 1 v l.length (Lib.byteCells l) ∧ (l = [] → v = .slice none 0 0)) ∧ Pk g B w w' ∧ w'.heap.size = w.heap.size
set_option maxRecDepth 100000 in
set_option maxHeartbeats 1000000 in
theorem check_pt {l : Bs} (h : Pt w B g l) : Calls Tryz.prog 86 #[.pointer (some ⟨g, 0, none⟩)] w (CkPost B g l w) := by
 obtain ⟨j, hj, hjs⟩ := Option.map_eq_some_iff.1 size_bd
 have hgB := h.gB
 obtain ⟨a, v, h1, h2, h3, h4⟩ := h.blk
 have c0 : w.cell? ⟨g, 0, none⟩ = some a := cell_of_row w g 0 _ _ _ h2
 have f0 : w.frozen? ⟨g, 0, none⟩ = false := by simp [World.frozen?, h2]
 have hsh : w.shape? g = some (86, 2) := by simp [World.shape?, h2]
 have H2 := Lib.hid h2
 have H3 := Lib.hid h3
 have H4 := Lib.hid h4
 clear h h2 h3 h4
 rcases h1 with rfl | rfl
 ·go_enter Tryz.func86, Tryz.ntmps86
  go_wp2
  rw [Lib.run_to_unsafe w ⟨g, 0, none⟩ Tryz.underlying83 Tryz.underlying127 hj (by rw [hjs]; decide) hsh (Nat.zero_lt_succ 1)]
  simp only [Result.andThen]
  rw [Oper.upon_value]
  go_wp2
  rw [run_callFunc_extern Tryz.func97 (by kernel_rfl) (by kernel_rfl) (by kernel_rfl) (e := Extern.AbiNoEscape.same) (by kernel_rfl)]
  rw [Lib.run_noEscape]
  simp only [Result.andThen]
  rw [Oper.upon_value]
  go_wp2
  rw [Lib.run_from_unsafe w ⟨g, 0, none⟩ Tryz.underlying127 Tryz.underlying83 hj hsh lies_pt]
  simp only [Result.andThen]
  rw [Oper.upon_value]
  go_wp2
  refine bodyPost_ret (v := .tuple #[]) (by simp [results, Tryz.results86, go_sem]) rfl ⟨rfl, ⟨v, by rw [heap_set H2.out]; rfl, ⟨H3.out.1, ?_⟩, H4.out⟩, (Pk.refl g B w).set 0 _, by simp [World.setCell]⟩
  rcases H3.out.2 with h5 | ⟨q, cap, cur, hv, hq, hh, hr⟩
  ·exact .inl h5
  ·exact .inr ⟨q, cap, cur, hv, hq, (Below.heap_setCell _ _ _ _ (by show q ≠ g; omega)).trans hh, hr⟩
 ·go_enter Tryz.func86, Tryz.ntmps86
  go_wp2
  rw [Lib.run_neq_ptr_same w _ Tryz.underlying83 hj]
  go_wp2
  exact bodyPost_ret (v := .tuple #[]) (by simp [results, Tryz.results86, go_sem]) rfl ⟨rfl, ⟨v, H2.out, H3.out, H4.out⟩, Pk.refl g B w, rfl⟩
def PtGot (B g : Nat) (l : Bs) (v : Value) (w : World) (e : Ending) (w' : World) : Prop := e = .returned v ∧ Pt w' B g l ∧ Pk g B w w'
theorem type_pt : (86 : Nat) ≠ 5 := by decide
set_option maxRecDepth 100000 in
set_option maxHeartbeats 1000000 in
theorem writeByte_any (h : Pt w B g l) (hl : l.length ≤ 1000000000) (c : UInt8) : Calls Tryz.prog 94 #[.pointer (some ⟨g, 0, none⟩), .int .u8 (c.toNat : Int)] w (PtGot B g (l ++ [c]) .nilIface w) := by
 have H := Lib.hid h
 have hgB := h.gB
 have hBw := h.hB
 clear h
 go_enter Tryz.func94, Tryz.ntmps94
 go_wp2_with fail
 refine (check_pt H.out).mono ?_
 rintro e w1 ⟨rfl, ⟨v, hbk, hown, hnl⟩, hk1, hs1⟩
 have c0 := cell_of_row w1 g 0 _ _ _ hbk
 have c1 : w1.cell? ⟨g, 1, none⟩ = some v := cell_of_row w1 g 1 _ _ _ hbk
 have HOW := Lib.hid hown
 have HBK := Lib.hid hbk
 have HK1 := Lib.hid hk1
 have hB1 : B ≤ w1.heap.size := by omega
 have hlen2 : Room2 l.length := by unfold Room2; omega
 have HS1 := Lib.hid hs1
 clear hown hbk hk1 H c0 hs1 hnl
 go_wp2_with (at_builtin; refine app1 rfl _ _ 84 rfl 5 (.int .u8 0) info_u8 Tryz.underlying84 rfl B _ _ _ rfl HOW.out _ rfl rfl hlen2 hB1 ?_; intro v' w2 hown2 hf2; have HO2 := Lib.hid hown2; have HF2 := Lib.hid hf2; clear hown2 hf2; obtain ⟨q, cap, hq, hqB, -, -⟩ := own_shape HO2.out (by omega); subst hq; have hbk2 : w2.heap[g]? = some (.cells #[.pointer (some ⟨g, 0, none⟩), v] 86 (0, 0)) := HF2.out.keeps HBK.out type_pt; have d1 := cell_of_row w2 g 1 _ _ _ hbk2; have f1 : w2.frozen? ⟨g, 1, none⟩ = false := (by simp [World.frozen?, hbk2]); have HBK2 := Lib.hid hbk2; clear hbk2)
 go_ret
 have HKK := Lib.hid ((HK1.out.frm HF2.out).set 1 (.slice (some ⟨q, 0, none⟩) (l.length + 1) cap))
 refine ⟨rfl, ⟨⟨.pointer (some ⟨g, 0, none⟩), _, .inr rfl, by rw [heap_set HBK2.out]; rfl, ?_, fun e => by simp at e⟩, hgB, ?_⟩, HKK.out⟩
 ·have hown3 := HO2.out
  have hne : g < q := by omega
  have e1 : (l ++ [c]).length = l.length + 1 := by simp
  have e2 : Lib.byteCells (l ++ [c]) = Lib.byteCells l ++ [.int .u8 (c.toNat : Int)] := by simp [Lib.byteCells]
  rw [e1, e2]
  refine ⟨hown3.1, .inr ?_⟩
  rcases hown3.2 with ⟨h5, _⟩ | ⟨q', cap', cur, hv, hq, hh, hr⟩
  ·cases h5
  ·simp only [Value.slice.injEq, Option.some.injEq, Addr.mk.injEq, and_true, true_and] at hv
   obtain ⟨rfl, rfl⟩ := hv
   exact ⟨q, cap, cur, rfl, hq, (Below.heap_setCell _ _ _ _ (by show q ≠ g; omega)).trans hh, hr⟩
 ·have := HF2.out.size; simp only [World.setCell, Array.size_modify]; omega
theorem blen_any (h : Pt w B g l) : Calls Tryz.prog 72 #[.pointer (some ⟨g, 0, none⟩)] w (fun e w' => e = .returned (.int .i64 (l.length : Int)) ∧ w' = w) := by
 obtain ⟨a, v, -, h2, h3, -⟩ := h.blk
 obtain ⟨A, c, rfl⟩ := own_shapeR h3
 have c1 : w.cell? ⟨g, 1, none⟩ = some (.slice A l.length c) := cell_of_row w g 1 _ _ _ h2
 clear h h2 h3
 go_enter Tryz.func72, Tryz.ntmps72
 go_wp2
 go_ret
 exact ⟨rfl, rfl⟩
theorem cells_u8 : Tryz.prog.cellsOf 5 = 1 := by kernel_rfl
set_option maxRecDepth 100000 in
set_option maxHeartbeats 2000000 in
theorem bstring_any (h : Pt w B g l) : Calls Tryz.prog 73 #[.pointer (some ⟨g, 0, none⟩)] w (fun e w' => e = .returned (.string (ofL l)) ∧ Below B w w') := by
 have hBw := h.hB
 obtain ⟨a, v, -, h2, h3, h4⟩ := h.blk
 by_cases h0 : l = []
 ·obtain rfl := h4 h0
  subst h0
  have c1 : w.drew.cell? ⟨g, 1, none⟩ = some (.slice none 0 0) := cell_of_row w g 1 _ _ _ h2
  have hUS := Lib.run_unsafeString_none (P := Tryz.prog) w.drew 120 3 9 none
  have hSD : (Builtin.unsafeSliceData_ #[84] 120 #[.slice none 0 0]).run Tryz.prog w.drew = .ok (.pointer none) w.drew := rfl
  clear h h2 h3 h4
  go_enter Tryz.func73, Tryz.ntmps73
  go_wp2
  go_region
  all_goals (go_wp2; go_ret; exact ⟨rfl, (Below.refl B w).drew⟩)
 ·have hl0 : l.length ≠ 0 := by simpa using h0
  obtain ⟨q, cap, cur, rfl, hbg, hg, hnc, hcm, hcs, htake⟩ : ∃ q cap cur, v = .slice (some ⟨q, 0, none⟩) l.length cap ∧ B ≤ q ∧ w.heap[q]? = some (.cells cur 5 (0, 0)) ∧ l.length ≤ cap ∧ cap ≤ maxLen ∧ cur.size = cap * 1 ∧ cur.toList.take (l.length * 1) = Lib.byteCells l := by
   rcases h3.2 with ⟨_, hz⟩ | ⟨q, cap, cur, hv, r⟩
   ·exact absurd hz hl0
   ·exact ⟨q, cap, cur, hv, r⟩
  have c1 : w.drew.cell? ⟨g, 1, none⟩ = some (.slice (some ⟨q, 0, none⟩) l.length cap) := cell_of_row w g 1 _ _ _ h2
  have hSD : (Builtin.unsafeSliceData_ #[84] 120 #[.slice (some ⟨q, 0, none⟩) l.length cap]).run Tryz.prog w.drew = .ok (.pointer (some ⟨q, 0, none⟩)) w.drew := Lib.run_unsafeSliceData_row _ _ _ _ _ _ (by omega)
  have hUS : (Builtin.unsafeString_ #[120, 3] 9 #[.pointer (some ⟨q, 0, none⟩), .int .i64 l.length]).run Tryz.prog w.drew = .ok (.string ⟨l.toArray⟩) (w.drew.freeze ⟨q, 0, none⟩ l.length) := by
   refine Lib.run_unsafeString_row w.drew 120 3 9 5 Tryz.underlying120 cells_u8 q cur.size (by have hg' : w.drew.heap[q]? = some (.cells cur 5 (0, 0)) := hg; simp [World.shape?, hg']) l h0 (by omega) (by unfold maxLen at hcm; omega) ?_
   intro j x hx
   have := h3.cells (g := q) rfl j (.int .u8 x.toNat) (by simp [Lib.byteCells, hx])
   exact this
  clear h h2 h3 h4 h0 hl0 hg hnc hcm hcs htake
  go_enter Tryz.func73, Tryz.ntmps73
  go_wp2
  go_region
  all_goals (go_wp2; go_ret; exact ⟨rfl, Lib.below_freeze (Below.drew (Below.refl B w)) (p := ⟨q, 0, none⟩) hbg _⟩)
end
end Go.Proofs.YtnainhpcmoekcaaGreatDoor
