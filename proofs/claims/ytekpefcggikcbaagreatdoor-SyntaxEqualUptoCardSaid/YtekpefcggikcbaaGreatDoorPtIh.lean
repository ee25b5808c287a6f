/- Layer 10: the contract of the printer's item, given what block writes: choice. -/
import Derived.Test.YtekpefcggikcbaaGreatDoorPtIt
import Derived.Deep.RegionWith
namespace Go.Proofs.YtekpefcggikcbaaGreatDoor
open Go.RowKit

section
variable {w w' : World} {g B d n : Nat} {l : Bs} {S : Nat → Prop}
set_option maxRecDepth 20000 in
set_option maxHeartbeats 8000000 in
theorem itChoice_any (hB : BlkOK n) (h : Pt w B g d l) (k tk : Int) (fr nm al : Bs) (to : List Bs) (bl : List (List It)) (At Ab : Option Addr) (ct cb : Nat) (hk : k = 2) (hI : ItIn w S to bl At Ab ct cb) (hsm : SmIt (.mk k fr to nm al tk bl)) (hl : (l ++ blksB d ([99, 104, 111, 105, 99, 101, 32, 97, 116, 32] ++ fr ++ withinB tk) [111, 114] tk bl.length 0 bl).length ≤ 1000000000) (hn : nBl bl ≤ n) (hS : ∀ k, S k → k < g) (hd : d + nBl bl ≤ 1000000000) :
  Calls Tryz.prog 210 #[.pointer (some ⟨g, 0, none⟩), .agg #[.int .i64 k, .string (ofL fr), .slice At to.length ct, .string (ofL nm), .string (ofL al), .int .i64 tk, .slice Ab bl.length cb]] w (PtGot B g d (l ++ blksB d ([99, 104, 111, 105, 99, 101, 32, 97, 116, 32] ++ fr ++ withinB tk) [111, 114] tk bl.length 0 bl) (.tuple #[]) w) := by
 have hlt := h.lt
 have hgB := h.gB
 obtain ⟨W0, hW0⟩ : ∃ W0, w.alloc (.cells #[.int .i64 k, .string (ofL fr), .slice At to.length ct, .string (ofL nm), .string (ofL al), .int .i64 tk, .slice Ab bl.length cb] 70) = W0 := ⟨_, rfl⟩
 have B0 := Lib.hid (show Below w.heap.size w W0 by rw [← hW0]; exact (Below.refl _ w).alloc (Nat.le_refl _) _)
 have X0 := Lib.hid (show Bx W0 w.heap.size 70 #[.int .i64 k, .string (ofL fr), .slice At to.length ct, .string (ofL nm), .string (ofL al), .int .i64 tk, .slice Ab bl.length cb] by rw [← hW0]; exact Bx.new _ _ _)
 have P0 := Lib.hid (h.below B0.out)
 have HI := Lib.hid hI
 have HSM := Lib.hid hsm
 have HL := Lib.hid hl
 have k0 := X0.out.cell 0
 have k1 := X0.out.cell 1
 have k2 := X0.out.cell 2
 have k3 := X0.out.cell 3
 have k4 := X0.out.cell 4
 have k5 := X0.out.cell 5
 have k6 := X0.out.cell 6
 subst hk
 clear h hI hsm hl
 have HSZ := Lib.hid (show w.heap.size < W0.drew.heap.size from X0.out.lt)
 have HB := Lib.hid hB
 have HN := Lib.hid hn
 have HS := Lib.hid hS
 have HD := Lib.hid hd
 have hto := HSM.out
 unfold SmIt at hto
 have hzf : (ofL fr).size ≤ 1000 := by rw [ofL_size]; exact hto.1
 have hzw : (ofL (withinB tk)).size ≤ 200 := by
  rw [ofL_size]; unfold withinB; split
  ·simp
  ·have := itoa_len tk (by have := hto.2.2.2.2.1; omega) (by have := hto.2.2.2.2.2.1; omega); simp; omega
 have HTK := Lib.hid (show 0 ≤ tk ∧ tk ≤ 999999 from ⟨hto.2.2.2.2.1, hto.2.2.2.2.2.1⟩)
 have LT := Lib.hid (show Lies W0.drew S (.slice Ab bl.length cb) (.s 1 (dBl bl)) from Lies.keep (w := W0) (Nat.le_refl _) (fun _ _ _ => rfl) (HI.out.2.belowT B0.out))
 have PD := Lib.hid (show Pt W0.drew B g d l from P0.out.below (Below.refl _ _).drew)
 have KD := Lib.hid (show Below w.heap.size w W0.drew from B0.out.trans (Below.refl _ _).drew)
 have HHD := Lib.hid (show (⟨#[99, 104, 111, 105, 99, 101, 32, 97, 116, 32]⟩ : ByteArray) ++ ofL fr ++ ofL (withinB tk) = ofL ([99, 104, 111, 105, 99, 101, 32, 97, 116, 32] ++ fr ++ withinB tk) from ofL_app3 [99, 104, 111, 105, 99, 101, 32, 97, 116, 32] fr (withinB tk))
 clear hto hB hn hS hd
 have y0 := (show Bx W0.drew w.heap.size _ _ from X0.out).cell 0
 have y1 := (show Bx W0.drew w.heap.size _ _ from X0.out).cell 1
 have y2 := (show Bx W0.drew w.heap.size _ _ from X0.out).cell 2
 have y3 := (show Bx W0.drew w.heap.size _ _ from X0.out).cell 3
 have y4 := (show Bx W0.drew w.heap.size _ _ from X0.out).cell 4
 have y5 := (show Bx W0.drew w.heap.size _ _ from X0.out).cell 5
 have y6 := (show Bx W0.drew w.heap.size _ _ from X0.out).cell 6
 go_enter Tryz.func210, Tryz.ntmps210
 go_wp2_with fail
 clear k0 k1 k2 k3 k4 k5 k6
 go_region_with (first
  | (go_at_call 238; refine (within_any PD.out.tb 2 tk fr nm al (.slice At to.length ct) (.slice Ab bl.length cb) HTK.out.1 HTK.out.2).mono ?_; rintro e w20 ⟨rfl, hb20⟩; have z0 := (hb20.cell (p := ⟨w.heap.size, 0, none⟩) HSZ.out).trans y0; have z1 := (hb20.cell (p := ⟨w.heap.size, 1, none⟩) HSZ.out).trans y1; have z2 := (hb20.cell (p := ⟨w.heap.size, 2, none⟩) HSZ.out).trans y2; have z3 := (hb20.cell (p := ⟨w.heap.size, 3, none⟩) HSZ.out).trans y3; have z4 := (hb20.cell (p := ⟨w.heap.size, 4, none⟩) HSZ.out).trans y4; have z5 := (hb20.cell (p := ⟨w.heap.size, 5, none⟩) HSZ.out).trans y5; have z6 := (hb20.cell (p := ⟨w.heap.size, 6, none⟩) HSZ.out).trans y6; have P20 := Lib.hid (PD.out.below hb20); have K20 := Lib.hid (KD.out.trans (hb20.mono KD.out.size)); have L20 := Lib.hid (LT.out.belowT hb20); clear hb20)
  | (go_at_call 237; rw [HHD.out]; refine (blocks_any HB.out P20.out ([99, 104, 111, 105, 99, 101, 32, 97, 116, 32] ++ fr ++ withinB tk) [111, 114] 2 tk fr nm al bl At Ab to.length ct cb HN.out L20.out HS.out (by have := HSM.out; unfold SmIt at this; exact this.2.2.2.2.2.2.2) (by have := HSM.out; unfold SmIt at this; exact this.2.2.2.2.2.2.1) HL.out HD.out).mono ?_; rintro e w21 ⟨rfl, P21, K21⟩; have P22 := Lib.hid P21; have K22 := Lib.hid K21; clear P21 K21))
 all_goals
  have HF := Lib.hid (show PtGot B g d (l ++ blksB d ([99, 104, 111, 105, 99, 101, 32, 97, 116, 32] ++ fr ++ withinB tk) [111, 114] tk bl.length 0 bl) (.tuple #[]) w (.returned (.tuple #[])) w21 from ⟨rfl, P22.out, ((Pk.refl g B w).below K20.out).trans K22.out⟩)
  go_wp2
  exact bodyPost_end (v := .tuple #[]) (by simp [results, Tryz.results210, go_sem]) rfl HF.out
end
end Go.Proofs.YtekpefcggikcbaaGreatDoor
