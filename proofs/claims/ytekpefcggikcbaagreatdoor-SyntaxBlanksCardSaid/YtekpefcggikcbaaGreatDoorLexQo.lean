/- Layer 9: the contract of Quote. -/
import Derived.Test.YtekpefcggikcbaaGreatDoorLexBd
import Derived.Test.YtekpefcggikcbaaGreatDoorLexQm
import Derived.Test.YtekpefcggikcbaaGreatDoorMPtWr
namespace Go.Proofs.YtekpefcggikcbaaGreatDoor
open Go.RowKit

def QoRel (w : World) (l : List UInt8) (i : Value) (wr : World) : Prop :=
  ∃ k : Nat, k ≤ l.length ∧ i = .int .i64 (k : Int) ∧ Hid (Lib.IsBuilder 168 5 w.heap.size w.heap.size (Lib.byteCells (34 :: esc (l.take k))) wr) ∧ Hid (Below w.heap.size w wr)
theorem byteCells_app (a b : List UInt8) : Lib.byteCells (a ++ b) = Lib.byteCells a ++ Lib.byteCells b := by simp [Lib.byteCells]
theorem byteCells_len (a : List UInt8) : (Lib.byteCells a).length = a.length := by simp [Lib.byteCells]
set_option maxRecDepth 20000 in
set_option maxHeartbeats 1000000 in
theorem quote_s (s : ByteArray) (l : List UInt8) (hs : s = ofL l) (hl : l.length ≤ 10000) (w : World) : Calls Tryz.prog 66 #[.string s] w fun e w' => e = .returned (.string (ofL (qt l))) ∧ Below w.heap.size w w' := by
  have hsz : s.size = l.length := by rw [hs, ofL_size]
  have HS := Lib.hid hs
  have HZ := Lib.hid hsz
  have hs1 : s.size ≤ 10000 := by omega
  clear hs hsz
  have I0 := Lib.hid (Lib.fresh_isBuilder 168 5 w)
  have B0 := Lib.hid ((Below.refl w.heap.size w).alloc (Nat.le_refl _) (.cells #[.pointer none, .slice none 0 0] 168))
  go_enter Tryz.func66, Tryz.ntmps66
  go_wp2_with fail
  refine (write_any _ _ _ _ _ I0.out (by simp) B0.out.size).mono ?_
  rintro e w1 ⟨rfl, h1, hb1⟩
  have I1 := Lib.hid h1
  have B1 := Lib.hid (B0.out.trans hb1)
  clear h1 hb1 I0 B0
  go_wp2
  go_loopw [4, 8] (fun _ i wr => QoRel w l i wr) (fun _ i _ => s.size - (intOf i).toNat)
  case atStart => exact ⟨0, by omega, rfl, I1.out, B1.out⟩
  case round =>
    clear I1 B1
    obtain ⟨k, hk, rfl, HI, HB⟩ := hrel
    have hsz := HB.out.size
    have hlen : (Lib.byteCells (34 :: esc (l.take k))).length ≤ 20001 := by
      rw [byteCells_len]; have := esc_len (l.take k); simp at this ⊢; omega
    by_cases hlt : k < s.size
    · obtain ⟨c, hc⟩ : ∃ c, l[k]? = some c := ⟨l[k]'(by have := HZ.out; omega), List.getElem?_eq_getElem _⟩
      have hg : (s[k]'hlt).toNat = c.toNat := by
        have e : s[k]'hlt = c := by
          have := HS.out
          subst this
          rw [ofL_get]
          exact (List.getElem?_eq_some_iff.1 hc).2
        rw [e]
      have hsn := Lib.hid (esc_snoc hc)
      obtain ⟨x, hx⟩ : ∃ x, x = c.toNat := ⟨_, rfl⟩
      rw [← hx] at hg
      have HXX := Lib.hid hx
      have HC := Lib.hid hc
      clear hc hx
      cases he : cE x with
      | true =>
        have HE := Lib.hid he; clear he
        have hstep : Hid (Lib.byteCells (34 :: esc (l.take (k + 1))) = Lib.byteCells (34 :: esc (l.take k)) ++ [.int .u8 92] ++ [.int .u8 (x : Int)]) := by
          unfold Hid
          have e : escB c = [92, c] := by unfold escB; rw [← HXX.out, if_pos HE.out]
          rw [hsn.out, e, HXX.out, show (34 :: (esc (l.take k) ++ [92, c])) = (34 :: esc (l.take k)) ++ [92, c] from rfl, byteCells_app, List.append_assoc]
          rfl
        go_wp2_with fail
        refine (isEscaped_any _ _).mono ?_; rintro e w1 ⟨rfl, rfl⟩; rw [HE.out]
        go_wp2_with fail
        refine (write_any _ _ _ _ _ HI.out (by omega) hsz).mono ?_
        rintro e w2 ⟨rfl, h2, hb2⟩
        have I2 := Lib.hid h2
        have B2 := Lib.hid (HB.out.trans hb2)
        clear h2 hb2
        have hsz2 := B2.out.size
        go_wp2_with fail
        refine (write_any _ _ _ _ _ I2.out (by rw [List.length_append]; simp; omega) hsz2).mono ?_
        rintro e w3 ⟨rfl, h3, hb3⟩
        have I3 := Lib.hid h3
        have B3 := Lib.hid (B2.out.trans hb3)
        clear h3 hb3
        go_wp2
        go_roundw
        case rel => exact ⟨k + 1, by have := HZ.out; omega, by go_num, by unfold Hid; rw [hstep.out]; exact I3.out, B3.out⟩
        case measure => simp [intOf]; omega
      | false =>
        have HE := Lib.hid he; clear he
        have hstep : Hid (Lib.byteCells (34 :: esc (l.take (k + 1))) = Lib.byteCells (34 :: esc (l.take k)) ++ [.int .u8 (x : Int)]) := by
          unfold Hid
          have e : escB c = [c] := by unfold escB; rw [← HXX.out, if_neg (by rw [HE.out]; simp)]
          rw [hsn.out, e, HXX.out, show (34 :: (esc (l.take k) ++ [c])) = (34 :: esc (l.take k)) ++ [c] from rfl, byteCells_app]
          rfl
        go_wp2_with fail
        refine (isEscaped_any _ _).mono ?_; rintro e w1 ⟨rfl, rfl⟩; rw [HE.out]
        go_wp2_with fail
        refine (write_any _ _ _ _ _ HI.out (by omega) hsz).mono ?_
        rintro e w2 ⟨rfl, h2, hb2⟩
        have I2 := Lib.hid h2
        have B2 := Lib.hid (HB.out.trans hb2)
        clear h2 hb2
        go_wp2
        go_roundw
        case rel => exact ⟨k + 1, by have := HZ.out; omega, by go_num, by unfold Hid; rw [hstep.out]; exact I2.out, B2.out⟩
        case measure => simp [intOf]; omega
    · have hend : Hid (Lib.byteCells (34 :: esc (l.take k)) ++ [.int .u8 34] = Lib.byteCells (qt l)) := by
        unfold Hid
        rw [List.take_of_length_le (by have := HZ.out; omega)]
        unfold qt
        rw [byteCells_app]
        rfl
      go_wp2_with fail
      refine (write_any _ _ _ _ _ HI.out (by omega) hsz).mono ?_
      rintro e w2 ⟨rfl, h2, hb2⟩
      rw [hend.out] at h2
      have I2 := Lib.hid h2
      have B2 := Lib.hid (HB.out.trans hb2)
      clear h2 hb2
      have hsz2 := B2.out.size
      go_wp2_with fail
      refine (lib_BuilderString _ _ _ _ I2.out hsz2).mono ?_
      rintro e w3 ⟨rfl, hb3⟩
      have B3 := Lib.hid (B2.out.trans hb3)
      clear hb3
      go_wp2
      go_ret
      exact ⟨rfl, B3.out⟩
end Go.Proofs.YtekpefcggikcbaaGreatDoor
