/- Layer 10: the contract of the law's function that writes a token. -/
import Derived.Test.YtekpefcggikcbaaGreatDoorLexAm
import Derived.Test.YtekpefcggikcbaaGreatDoorLexQo
import Derived.Deep.LoopGhost
namespace Go.Proofs.YtekpefcggikcbaaGreatDoor
open Go.RowKit

def tokC (t : Tok) : Value := .agg #[.int .i64 (t.k : Int), .string (ofL t.t), .int .i64 (t.v : Int), .int .i64 (t.p : Int)]
def WtRel (W : World) (v gk : Nat) (n s : Value) (wr : World) : Prop :=
  ∃ (m : Nat) (l : List UInt8) (u : ByteArray), m ≤ gk ∧ n = .int .i64 (m : Int) ∧ s = .string u ∧ Hid (u = ofL l) ∧ Hid (dg v = dg m ++ l) ∧ l.length + m ≤ v ∧ wr = W
set_option maxRecDepth 20000 in
set_option maxHeartbeats 1000000 in
theorem swrite_any (t : Tok) (hv : t.v < 10000000) (hl : t.t.length ≤ 10000) (w : World) : Calls Tryz.prog 28 #[tokC t] w fun e w' => e = .returned (.string (ofL (wrt t))) ∧ Below w.heap.size w w' := by
  obtain ⟨k, s, v, p⟩ := t
  unfold tokC
  simp only at hv hl ⊢
  have HB : Hid (Below w.heap.size w (w.alloc (.cells #[.int .i64 (k : Int), .string (ofL s), .int .i64 (v : Int), .int .i64 (p : Int)] 48))) := (Below.refl _ _).alloc (Nat.le_refl _) _
  by_cases h2 : k = 2
  · have hw := Lib.hid (show wrt ⟨k, s, v, p⟩ = dg v by unfold wrt; rw [if_pos h2])
    have t2 : ((k : Int) == 2) = true := by rw [h2]; rfl
    clear h2
    go_enter Tryz.func28, Tryz.ntmps28
    go_wp2_with fail
    generalize w.alloc (.cells #[.int .i64 (k : Int), .string (ofL s), .int .i64 (v : Int), .int .i64 (p : Int)] 48) = W at *
    go_loopg [3, 4] v (fun gk n s wr => WtRel W v gk n s wr)
    case atStart => exact ⟨v, [], _, Nat.le_refl _, rfl, rfl, rfl, by unfold Hid; simp, by simp, rfl⟩
    case round =>
      obtain ⟨m, l, u, hmg, rfl, rfl, HU, HD, hlm, rfl⟩ := hrel
      have hul : u.size ≤ 10000000 := by rw [HU.out, ofL_size]; omega
      by_cases h10 : m < 10
      · have hd : dg m = [UInt8.ofNat (48 + m)] := by unfold dg; rw [if_pos h10]
        obtain ⟨d, hdd⟩ : ∃ d, d = 48 + m := ⟨_, rfl⟩
        rw [← hdd] at hd
        have HR := Lib.hid (show ofL [UInt8.ofNat d] ++ u = ofL (wrt ⟨k, s, v, p⟩) by rw [hw.out, HD.out, hd, HU.out, ofL_append])
        have hr := rune_str d (by omega) wr
        have e48 : 48 + (m : Int) = (d : Int) := by omega
        have hd2 : d < 128 := by omega
        have hm10 : ¬ (10 : Int) ≤ (m : Int) := by omega
        have hds : (ofL [UInt8.ofNat d]).size ≤ 1 := by rw [ofL_size]; simp
        clear hd hdd h10
        go_wp2_with fail
        go_ret
        exact ⟨by rw [HR.out]; rfl, HB.out⟩
      · have hd : dg m = dg (m / 10) ++ [UInt8.ofNat (48 + m % 10)] := by rw [dg, if_neg h10]
        obtain ⟨q, hq⟩ : ∃ q, q = m / 10 := ⟨_, rfl⟩
        obtain ⟨r, hrr⟩ : ∃ r, r = m % 10 := ⟨_, rfl⟩
        obtain ⟨d, hdd⟩ : ∃ d, d = 48 + r := ⟨_, rfl⟩
        rw [← hq, ← hrr, ← hdd] at hd
        have HU2 := Lib.hid (show ofL [UInt8.ofNat d] ++ u = ofL (UInt8.ofNat d :: l) by rw [HU.out, ofL_append]; rfl)
        have HD2 := Lib.hid (show dg v = dg q ++ (UInt8.ofNat d :: l) by rw [HD.out, hd, List.append_assoc]; rfl)
        have hr := rune_str d (by omega) wr
        have e48 : 48 + (r : Int) = (d : Int) := by omega
        have eq : (m : Int) / 10 = (q : Int) := by omega
        have er : (m : Int) % 10 = (r : Int) := by omega
        have hd2 : d < 128 := by omega
        have hrl : r < 10 := by omega
        have hm10 : (10 : Int) ≤ (m : Int) := by omega
        have hds : (ofL [UInt8.ofNat d]).size ≤ 1 := by rw [ofL_size]; simp
        have hqm : q + 9 ≤ m := by omega
        clear hd hdd hq hrr h10
        go_wp2_with fail
        go_roundg q
        case rel => exact ⟨q, _, _, Nat.le_refl _, rfl, rfl, HU2, HD2, by rw [List.length_cons]; omega, rfl⟩
        case measure => omega
  · have t2 : ((k : Int) == 2) = false := by simp; omega
    by_cases h3 : k = 3
    · have hw := Lib.hid (show wrt ⟨k, s, v, p⟩ = qt s by unfold wrt; rw [if_neg h2, if_pos h3])
      have t3 : ((k : Int) == 3) = true := by rw [h3]; rfl
      clear h2 h3
      go_enter Tryz.func28, Tryz.ntmps28
      go_wp2_with fail
      refine (quote_s (ofL s) s rfl hl _).mono ?_; rintro e w1 ⟨rfl, hb1⟩
      have HB1 := Lib.hid (HB.out.trans (hb1.mono HB.out.size))
      clear hb1
      go_wp2_with fail
      go_ret
      exact ⟨by rw [hw.out]; rfl, HB1.out⟩
    · have hw := Lib.hid (show wrt ⟨k, s, v, p⟩ = s by unfold wrt; rw [if_neg h2, if_neg h3])
      have t3 : ((k : Int) == 3) = false := by simp; omega
      clear h2 h3
      go_enter Tryz.func28, Tryz.ntmps28
      go_wp2_with fail
      go_ret
      exact ⟨by rw [hw.out]; rfl, HB.out⟩
end Go.Proofs.YtekpefcggikcbaaGreatDoor
