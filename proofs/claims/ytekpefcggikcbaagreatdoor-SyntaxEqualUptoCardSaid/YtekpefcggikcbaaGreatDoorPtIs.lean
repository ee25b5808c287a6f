/- Layer 10: the contract of the printer's item, given what block writes: send. -/
import Derived.Test.YtekpefcggikcbaaGreatDoorPtIt
import Derived.Deep.RegionWith
namespace Go.Proofs.YtekpefcggikcbaaGreatDoor
open Go.RowKit

section
variable {w w' : World} {g B d n : Nat} {l : Bs} {S : Nat → Prop}
set_option maxRecDepth 20000 in
set_option maxHeartbeats 8000000 in
theorem itSend_any (h : Pt w B g d l) (k tk : Int) (fr nm al : Bs) (to : List Bs) (bl : List (List It)) (At Ab : Option Addr) (ct cb : Nat) (hk : k = 1) (hI : ItIn w S to bl At Ab ct cb) (hsm : SmIt (.mk k fr to nm al tk bl)) (hl : (l ++ lineB d [fr, [32, 45, 62, 32], joinB [44, 32] to, [58, 32], nm, [59]]).length ≤ 1000000000) :
  Calls Tryz.prog 210 #[.pointer (some ⟨g, 0, none⟩), .agg #[.int .i64 k, .string (ofL fr), .slice At to.length ct, .string (ofL nm), .string (ofL al), .int .i64 tk, .slice Ab bl.length cb]] w (PtGot B g d (l ++ lineB d [fr, [32, 45, 62, 32], joinB [44, 32] to, [58, 32], nm, [59]]) (.tuple #[]) w) := by
 have hlt := h.lt
 have hgB := h.gB
 obtain ⟨W0, hW0⟩ : ∃ W0, w.alloc (.cells #[.int .i64 k, .string (ofL fr), .slice At to.length ct, .string (ofL nm), .string (ofL al), .int .i64 tk, .slice Ab bl.length cb] 70) = W0 := ⟨_, rfl⟩
 have B0 := Lib.hid (show Below w.heap.size w W0 by rw [← hW0]; exact (Below.refl _ w).alloc (Nat.le_refl _) _)
 have X0 := Lib.hid (show Bx W0 w.heap.size 70 #[.int .i64 k, .string (ofL fr), .slice At to.length ct, .string (ofL nm), .string (ofL al), .int .i64 tk, .slice Ab bl.length cb] by rw [← hW0]; exact Bx.new _ _ _)
 have P0 := Lib.hid (h.below B0.out)
 have HI := Lib.hid hI
 have HSM := Lib.hid hsm
 have HL := Lib.hid hl
 have k0 := X0.out.cell 0
 have k1 := X0.out.cell 1
 have k2 := X0.out.cell 2
 have k3 := X0.out.cell 3
 have k4 := X0.out.cell 4
 have k5 := X0.out.cell 5
 have k6 := X0.out.cell 6
 subst hk
 clear h hI hsm hl
 have HSZ := Lib.hid (show w.heap.size < W0.drew.heap.size from X0.out.lt)
 have hto := HSM.out
 unfold SmIt at hto
 have HJ := Lib.hid (show (joinB [44, 32] to).length ≤ 100000000 by
  have h1 := joinB_len [44, 32] 1000 to hto.2.1.2
  have h2 : to.length * (1000 + 2) ≤ 100 * 1002 := Nat.mul_le_mul hto.2.1.1 (Nat.le_refl _)
  exact Nat.le_trans h1 (Nat.le_trans h2 (by omega)))
 have HLN := Lib.hid (show to.length ≤ 10000 by have := hto.2.1.1; omega)
 have LT := Lib.hid (show Lies W0.drew S (.slice At to.length ct) (dL to) from Lies.keep (w := W0) (Nat.le_refl _) (fun _ _ _ => rfl) (HI.out.1.belowT B0.out))
 have PD := Lib.hid (show Pt W0.drew B g d l from P0.out.below (Below.refl _ _).drew)
 have KD := Lib.hid (show Below w.heap.size w W0.drew from B0.out.trans (Below.refl _ _).drew)
 clear hto
 have y1 := (show Bx W0.drew w.heap.size _ _ from X0.out).cell 1
 have y2 := (show Bx W0.drew w.heap.size _ _ from X0.out).cell 2
 have y3 := (show Bx W0.drew w.heap.size _ _ from X0.out).cell 3
 go_enter Tryz.func210, Tryz.ntmps210
 go_wp2_with fail
 clear k0 k1 k2 k3 k4 k5 k6
 go_region_with (first
  | (go_at_call 207; refine (join_any to [44, 32] LT.out HLN.out HJ.out).mono ?_; rintro e w20 ⟨rfl, hb20⟩; have z1 := (hb20.cell (p := ⟨w.heap.size, 1, none⟩) HSZ.out).trans y1; have z2 := (hb20.cell (p := ⟨w.heap.size, 2, none⟩) HSZ.out).trans y2; have z3 := (hb20.cell (p := ⟨w.heap.size, 3, none⟩) HSZ.out).trans y3; have P20 := Lib.hid (PD.out.below hb20); have K20 := Lib.hid (KD.out.trans (hb20.mono KD.out.size)); clear hb20)
  | (go_at_call 156; refine (line_any (ps := [fr, [32, 45, 62, 32], joinB [44, 32] to, [58, 32], nm, [59]]) (P20.out.alloc _) (heap_alloc_new w20 _) (by have := P20.out.lt; omega) (by simp) HL.out).mono ?_; rintro e w21 ⟨rfl, P21, K21⟩; have P22 := Lib.hid P21; have K22 := Lib.hid K21; clear P21 K21))
 all_goals
  have HF := Lib.hid (show PtGot B g d (l ++ lineB d [fr, [32, 45, 62, 32], joinB [44, 32] to, [58, 32], nm, [59]]) (.tuple #[]) w (.returned (.tuple #[])) w21 from ⟨rfl, P22.out, (((Pk.refl g B w).below K20.out).alloc _).trans K22.out⟩)
  go_wp2
  exact bodyPost_end (v := .tuple #[]) (by simp [results, Tryz.results210, go_sem]) rfl HF.out
end
end Go.Proofs.YtekpefcggikcbaaGreatDoor
