/- value: Show of a short text. -/
import Derived.Test.YtnainhpcmoekcaaGreatDoorVaR
namespace Go.Proofs.YtnainhpcmoekcaaGreatDoor
open Go.RowKit

set_option maxRecDepth 100000 in
set_option maxHeartbeats 1600000 in
theorem replace_any (rb o c : Nat) (s : Bs) (w : World) (hr : Bx w rb 109 #[.int .u32 0, .int .i32 0, .int .u32 0, .nilIface, .slice (some ⟨o, 0, none⟩) 4 c]) (ho : Strs w o) (hne : o ≠ rb) (hl : s.length < 16) :
  Calls Tryz.prog 56 #[.pointer (some ⟨rb, 0, none⟩), .string (ofL s)] w fun e w' => e = .returned (.string (ofL (escL s))) ∧ Only rb w w' := by
 have HC := Lib.hid (do_any rb o c _ _ w hr ho hne)
 have hmf : ∀ (fn : Fn) (first cap : Array Value) (w : World), (Instr.makeFunc fn first cap).run Tryz.prog w = .ok (.func fn first cap) w := fun _ _ _ _ => rfl
 clear hr ho
 go_enter Tryz.func56, Tryz.ntmps56
 go_wp2_with fail
 refine HC.out.mono ?_
 rintro e w1 ⟨rfl, q, hq, hbp, hrb, hon⟩
 have k3 := hrb.cell 3
 unfold rpI at k3
 have HR := Lib.hid (repl_any q s w1 hbp hl)
 have HO := Lib.hid hon
 clear hq hbp hrb hon
 go_wp2_with fail
 refine HR.out.mono ?_
 rintro e w2 ⟨rfl, hb2⟩
 have HO2 := Lib.hid (HO.out.below hb2)
 clear hb2
 go_wp2_with fail
 go_ret
 exact ⟨rfl, HO2.out⟩
theorem ofL_append (a b : Bs) : ofL a ++ ofL b = ofL (a ++ b) := by
 apply ByteArray.ext
 simp [ofL]
def shT (s : Bs) : Bs := 34 :: (escL s ++ [34])
set_option maxRecDepth 100000 in
set_option maxHeartbeats 1600000 in
theorem show_text (s : Bs) (w : World) (hv : vlB 2 0 s = true) (hl : s.length < 16) : Calls Tryz.prog 28 #[vl 2 0 s] w (Tells w (.string (ofL (shT s)))) := by
 have hba := al1 w (.cells #[.int .i64 2, .int .i64 0, .string (ofL s)] 25)
 have hx : Bx (w.alloc (.cells #[.int .i64 2, .int .i64 0, .string (ofL s)] 25)) w.heap.size 25 #[.int .i64 2, .int .i64 0, .string (ofL s)] := heap_alloc_new w _
 have hva := valid_any 2 0 s (w.alloc (.cells #[.int .i64 2, .int .i64 0, .string (ofL s)] 25))
 rw [hv] at hva
 have HV := Lib.hid hva; have HX := Lib.hid hx; have HB := Lib.hid hba
 clear hva hx hba hv
 unfold vl at HV ⊢
 go_enter Tryz.func28, Tryz.ntmps28
 go_wp2_with fail
 refine HV.out.mono ?_
 rintro e w1 ⟨rfl, hb1⟩
 have HX1 := Lib.hid (HX.out.below hb1)
 have HB1 := Lib.hid (below_ext2 HB.out hb1)
 have k0 := HX1.out.cell 0
 clear hb1 HX HB
 go_wp2_with fail
 have hba := al1 w1 (.cells #[.string ⟨#[34]⟩, .string ⟨#[92, 34]⟩, .string ⟨#[92]⟩, .string ⟨#[92, 92]⟩] 9)
 have hst : Strs (w1.alloc (.cells #[.string ⟨#[34]⟩, .string ⟨#[92, 34]⟩, .string ⟨#[92]⟩, .string ⟨#[92, 92]⟩] 9)) w1.heap.size := by
  have h := heap_alloc_new w1 (.cells #[.string ⟨#[34]⟩, .string ⟨#[92, 34]⟩, .string ⟨#[92]⟩, .string ⟨#[92, 92]⟩] 9)
  exact ⟨cell_of_row _ _ 0 _ _ _ h, cell_of_row _ _ 1 _ _ _ h, cell_of_row _ _ 2 _ _ _ h, cell_of_row _ _ 3 _ _ _ h⟩
 have HX2 := Lib.hid (HX1.out.below hba)
 have HB2 := Lib.hid (below_ext2 HB1.out hba)
 refine (new_any w1.heap.size _ hst).mono ?_
 rintro e w2 ⟨rb, o, c, rfl, hrb, hbx, hso, hne, hb2⟩
 have hx2 := HX2.out.below hb2
 have k2 := hx2.cell 2
 have HB3 := Lib.hid (below_ext2 HB2.out hb2)
 have HL := Lib.hid (show w.heap.size ≤ rb by have := HB2.out.size; omega)
 have HC := Lib.hid (replace_any rb o c s w2 hbx hso hne hl)
 clear hba hst hb2 hx2 hbx hso k0 hrb
 go_wp2_with fail
 refine HC.out.mono ?_
 rintro e w3 ⟨rfl, hon⟩
 have HB4 := Lib.hid (HB3.out.trans (hon.toBelow HL.out HB3.out.size))
 have e1 : (⟨#[34]⟩ : ByteArray) ++ ofL (escL s) ++ ⟨#[34]⟩ = ofL (shT s) := by
  show ofL [34] ++ ofL (escL s) ++ ofL [34] = _
  rw [ofL_append, ofL_append]
  rfl
 have HE := Lib.hid e1
 have hsz : (ofL (escL s)).size ≤ 32 := by rw [ofL_size, escL_len]; have := cnt_len s; omega
 have hz1 : ¬ 9223372036854775807 < 1 + (ofL (escL s)).size := by omega
 have hz2 : ¬ 9223372036854775807 < 1 + (ofL (escL s)).size + 1 := by omega
 clear hon k2 e1
 go_wp2_with fail
 go_ret
 exact ⟨by rw [← HE.out]; rfl, HB4.out⟩
end Go.Proofs.YtnainhpcmoekcaaGreatDoor
