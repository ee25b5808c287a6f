/- Layer 10: the contract of the printer's item, given what block writes: loop, again, par, none. -/
import Derived.Test.YtekpefcggikcbaaGreatDoorMPtBk
import Derived.Deep.RegionWith
namespace Go.Proofs.YtekpefcggikcbaaGreatDoor
open Go.RowKit

section
variable {w w' : World} {g B d n : Nat} {l : Bs} {S : Nat → Prop}
def ItIn (w : World) (S : Nat → Prop) (to : List Bs) (bl : List (List It)) (At Ab : Option Addr) (ct cb : Nat) : Prop := Lies w S (.slice At to.length ct) (dL to) ∧ Lies w S (.slice Ab bl.length cb) (.s 1 (dBl bl))
set_option maxRecDepth 20000 in
set_option maxHeartbeats 8000000 in
theorem itAgain_any (h : Pt w B g d l) (k tk : Int) (fr nm al : Bs) (to : List Bs) (bl : List (List It)) (At Ab : Option Addr) (ct cb : Nat) (hk : k = 4) (hI : ItIn w S to bl At Ab ct cb) (hsm : SmIt (.mk k fr to nm al tk bl)) (hl : (l ++ lineB d [[97, 103, 97, 105, 110, 32], nm, [59]]).length ≤ 1000000000) :
  Calls Tryz.prog 210 #[.pointer (some ⟨g, 0, none⟩), .agg #[.int .i64 k, .string (ofL fr), .slice At to.length ct, .string (ofL nm), .string (ofL al), .int .i64 tk, .slice Ab bl.length cb]] w (PtGot B g d (l ++ lineB d [[97, 103, 97, 105, 110, 32], nm, [59]]) (.tuple #[]) w) := by
 have hlt := h.lt
 have hgB := h.gB
 obtain ⟨W0, hW0⟩ : ∃ W0, w.alloc (.cells #[.int .i64 k, .string (ofL fr), .slice At to.length ct, .string (ofL nm), .string (ofL al), .int .i64 tk, .slice Ab bl.length cb] 70) = W0 := ⟨_, rfl⟩
 have B0 := Lib.hid (show Below w.heap.size w W0 by rw [← hW0]; exact (Below.refl _ w).alloc (Nat.le_refl _) _)
 have X0 := Lib.hid (show Bx W0 w.heap.size 70 #[.int .i64 k, .string (ofL fr), .slice At to.length ct, .string (ofL nm), .string (ofL al), .int .i64 tk, .slice Ab bl.length cb] by rw [← hW0]; exact Bx.new _ _ _)
 have P0 := Lib.hid (h.below B0.out)
 have HI := Lib.hid hI
 have HSM := Lib.hid hsm
 have HL := Lib.hid hl
 have k0 := X0.out.cell 0
 have k1 := X0.out.cell 1
 have k2 := X0.out.cell 2
 have k3 := X0.out.cell 3
 have k4 := X0.out.cell 4
 have k5 := X0.out.cell 5
 have k6 := X0.out.cell 6
 subst hk
 clear h hI hsm hl
 go_enter Tryz.func210, Tryz.ntmps210
 go_wp2_with fail
 refine (line_any (ps := [[97, 103, 97, 105, 110, 32], nm, [59]]) (P0.out.alloc _) (heap_alloc_new W0 _) (by have := P0.out.lt; have := X0.out.lt; omega) (by simp) HL.out).mono ?_; rintro e w4 ⟨rfl, P4, K4⟩
 have P4' := Lib.hid P4
 have K4' := Lib.hid ((((Pk.refl g B w).below B0.out).alloc _).trans K4)
 clear P4 K4
 go_wp2_with fail
 exact bodyPost_end (v := .tuple #[]) (by simp [results, Tryz.results210, go_sem]) rfl ⟨rfl, P4'.out, K4'.out⟩
set_option maxRecDepth 20000 in
set_option maxHeartbeats 8000000 in
theorem itLoop_any (hB : BlkOK n) (h : Pt w B g d l) (k tk : Int) (fr nm al : Bs) (to : List Bs) (bl : List (List It)) (At Ab : Option Addr) (ct cb : Nat) (hk : k = 3) (hI : ItIn w S to bl At Ab ct cb) (hsm : SmIt (.mk k fr to nm al tk bl)) (hl : (l ++ blksB d ([108, 111, 111, 112, 32] ++ nm) [] tk bl.length 0 bl).length ≤ 1000000000) (hn : nBl bl ≤ n) (hS : ∀ k, S k → k < g) (hd : d + nBl bl ≤ 1000000000) :
  Calls Tryz.prog 210 #[.pointer (some ⟨g, 0, none⟩), .agg #[.int .i64 k, .string (ofL fr), .slice At to.length ct, .string (ofL nm), .string (ofL al), .int .i64 tk, .slice Ab bl.length cb]] w (PtGot B g d (l ++ blksB d ([108, 111, 111, 112, 32] ++ nm) [] tk bl.length 0 bl) (.tuple #[]) w) := by
 have hlt := h.lt
 have hgB := h.gB
 obtain ⟨W0, hW0⟩ : ∃ W0, w.alloc (.cells #[.int .i64 k, .string (ofL fr), .slice At to.length ct, .string (ofL nm), .string (ofL al), .int .i64 tk, .slice Ab bl.length cb] 70) = W0 := ⟨_, rfl⟩
 have B0 := Lib.hid (show Below w.heap.size w W0 by rw [← hW0]; exact (Below.refl _ w).alloc (Nat.le_refl _) _)
 have X0 := Lib.hid (show Bx W0 w.heap.size 70 #[.int .i64 k, .string (ofL fr), .slice At to.length ct, .string (ofL nm), .string (ofL al), .int .i64 tk, .slice Ab bl.length cb] by rw [← hW0]; exact Bx.new _ _ _)
 have P0 := Lib.hid (h.below B0.out)
 have HI := Lib.hid hI
 have HSM := Lib.hid hsm
 have HL := Lib.hid hl
 have k0 := X0.out.cell 0
 have k1 := X0.out.cell 1
 have k2 := X0.out.cell 2
 have k3 := X0.out.cell 3
 have k4 := X0.out.cell 4
 have k5 := X0.out.cell 5
 have k6 := X0.out.cell 6
 subst hk
 clear h hI hsm hl
 have HB := Lib.hid hB
 have HN := Lib.hid hn
 have HS := Lib.hid hS
 have HD := Lib.hid hd
 clear hB hn hS hd
 have LB := Lib.hid (HI.out.2.belowT B0.out)
 have hz : (ofL nm).size ≤ 1000 := by rw [ofL_size]; have := HSM.out; unfold SmIt at this; exact this.2.2.1
 obtain ⟨hd9, hhd⟩ : ∃ hd9 : Bs, hd9 = [108, 111, 111, 112, 32] ++ nm := ⟨_, rfl⟩
 have HHD := Lib.hid (show (⟨#[108, 111, 111, 112, 32]⟩ : ByteArray) ++ ofL nm = ofL hd9 by rw [hhd]; exact ofL_append _ _)
 rw [← hhd] at HL ⊢
 clear hhd
 go_enter Tryz.func210, Tryz.ntmps210
 go_wp2_with fail
 rw [HHD.out]
 refine (blocks_any HB.out P0.out hd9 [] 3 tk fr nm al bl At Ab to.length ct cb HN.out LB.out HS.out (by have := HSM.out; unfold SmIt at this; exact this.2.2.2.2.2.2.2) (by have := HSM.out; unfold SmIt at this; exact this.2.2.2.2.2.2.1) HL.out HD.out).mono ?_; rintro e w4 ⟨rfl, P4, K4⟩
 have P4' := Lib.hid P4
 have K4' := Lib.hid (((Pk.refl g B w).below B0.out).trans K4)
 clear P4 K4
 go_wp2_with fail
 exact bodyPost_end (v := .tuple #[]) (by simp [results, Tryz.results210, go_sem]) rfl ⟨rfl, P4'.out, K4'.out⟩
set_option maxRecDepth 20000 in
set_option maxHeartbeats 8000000 in
theorem itPar_any (hB : BlkOK n) (h : Pt w B g d l) (k tk : Int) (fr nm al : Bs) (to : List Bs) (bl : List (List It)) (At Ab : Option Addr) (ct cb : Nat) (hk : k = 5) (hI : ItIn w S to bl At Ab ct cb) (hsm : SmIt (.mk k fr to nm al tk bl)) (hl : (l ++ blksB d ([112, 97, 114]) [97, 110, 100] tk bl.length 0 bl).length ≤ 1000000000) (hn : nBl bl ≤ n) (hS : ∀ k, S k → k < g) (hd : d + nBl bl ≤ 1000000000) :
  Calls Tryz.prog 210 #[.pointer (some ⟨g, 0, none⟩), .agg #[.int .i64 k, .string (ofL fr), .slice At to.length ct, .string (ofL nm), .string (ofL al), .int .i64 tk, .slice Ab bl.length cb]] w (PtGot B g d (l ++ blksB d ([112, 97, 114]) [97, 110, 100] tk bl.length 0 bl) (.tuple #[]) w) := by
 have hlt := h.lt
 have hgB := h.gB
 obtain ⟨W0, hW0⟩ : ∃ W0, w.alloc (.cells #[.int .i64 k, .string (ofL fr), .slice At to.length ct, .string (ofL nm), .string (ofL al), .int .i64 tk, .slice Ab bl.length cb] 70) = W0 := ⟨_, rfl⟩
 have B0 := Lib.hid (show Below w.heap.size w W0 by rw [← hW0]; exact (Below.refl _ w).alloc (Nat.le_refl _) _)
 have X0 := Lib.hid (show Bx W0 w.heap.size 70 #[.int .i64 k, .string (ofL fr), .slice At to.length ct, .string (ofL nm), .string (ofL al), .int .i64 tk, .slice Ab bl.length cb] by rw [← hW0]; exact Bx.new _ _ _)
 have P0 := Lib.hid (h.below B0.out)
 have HI := Lib.hid hI
 have HSM := Lib.hid hsm
 have HL := Lib.hid hl
 have k0 := X0.out.cell 0
 have k1 := X0.out.cell 1
 have k2 := X0.out.cell 2
 have k3 := X0.out.cell 3
 have k4 := X0.out.cell 4
 have k5 := X0.out.cell 5
 have k6 := X0.out.cell 6
 subst hk
 clear h hI hsm hl
 have HB := Lib.hid hB
 have HN := Lib.hid hn
 have HS := Lib.hid hS
 have HD := Lib.hid hd
 clear hB hn hS hd
 have LB := Lib.hid (HI.out.2.belowT B0.out)
 go_enter Tryz.func210, Tryz.ntmps210
 go_wp2_with fail
 refine (blocks_any HB.out P0.out [112, 97, 114] [97, 110, 100] 5 tk fr nm al bl At Ab to.length ct cb HN.out LB.out HS.out (by have := HSM.out; unfold SmIt at this; exact this.2.2.2.2.2.2.2) (by have := HSM.out; unfold SmIt at this; exact this.2.2.2.2.2.2.1) HL.out HD.out).mono ?_; rintro e w4 ⟨rfl, P4, K4⟩
 have P4' := Lib.hid P4
 have K4' := Lib.hid (((Pk.refl g B w).below B0.out).trans K4)
 clear P4 K4
 go_wp2_with fail
 exact bodyPost_end (v := .tuple #[]) (by simp [results, Tryz.results210, go_sem]) rfl ⟨rfl, P4'.out, K4'.out⟩
set_option maxRecDepth 20000 in
set_option maxHeartbeats 8000000 in
theorem itNone_any (h : Pt w B g d l) (k tk : Int) (fr nm al : Bs) (to : List Bs) (bl : List (List It)) (At Ab : Option Addr) (ct cb : Nat) (hk : k ≠ 1 ∧ k ≠ 2 ∧ k ≠ 3 ∧ k ≠ 4 ∧ k ≠ 5 ∧ k ≠ 6) (hI : ItIn w S to bl At Ab ct cb) (hsm : SmIt (.mk k fr to nm al tk bl)) (hl : (l ++ []).length ≤ 1000000000) :
  Calls Tryz.prog 210 #[.pointer (some ⟨g, 0, none⟩), .agg #[.int .i64 k, .string (ofL fr), .slice At to.length ct, .string (ofL nm), .string (ofL al), .int .i64 tk, .slice Ab bl.length cb]] w (PtGot B g d (l ++ []) (.tuple #[]) w) := by
 have hlt := h.lt
 have hgB := h.gB
 obtain ⟨W0, hW0⟩ : ∃ W0, w.alloc (.cells #[.int .i64 k, .string (ofL fr), .slice At to.length ct, .string (ofL nm), .string (ofL al), .int .i64 tk, .slice Ab bl.length cb] 70) = W0 := ⟨_, rfl⟩
 have B0 := Lib.hid (show Below w.heap.size w W0 by rw [← hW0]; exact (Below.refl _ w).alloc (Nat.le_refl _) _)
 have X0 := Lib.hid (show Bx W0 w.heap.size 70 #[.int .i64 k, .string (ofL fr), .slice At to.length ct, .string (ofL nm), .string (ofL al), .int .i64 tk, .slice Ab bl.length cb] by rw [← hW0]; exact Bx.new _ _ _)
 have P0 := Lib.hid (h.below B0.out)
 have HI := Lib.hid hI
 have HSM := Lib.hid hsm
 have HL := Lib.hid hl
 have k0 := X0.out.cell 0
 have k1 := X0.out.cell 1
 have k2 := X0.out.cell 2
 have k3 := X0.out.cell 3
 have k4 := X0.out.cell 4
 have k5 := X0.out.cell 5
 have k6 := X0.out.cell 6
 clear h hI hsm hl
 have e1 : (k == 1) = false := by simpa using hk.1
 have e2 : (k == 2) = false := by simpa using hk.2.1
 have e3 : (k == 3) = false := by simpa using hk.2.2.1
 have e4 : (k == 4) = false := by simpa using hk.2.2.2.1
 have e5 : (k == 5) = false := by simpa using hk.2.2.2.2.1
 have e6 : (k == 6) = false := by simpa using hk.2.2.2.2.2
 clear hk
 go_enter Tryz.func210, Tryz.ntmps210
 go_wp2_with fail
 exact bodyPost_end (v := .tuple #[]) (by simp [results, Tryz.results210, go_sem]) rfl ⟨rfl, by rw [List.append_nil]; exact P0.out, (Pk.refl g B w).below B0.out⟩
end
end Go.Proofs.YtekpefcggikcbaaGreatDoor
