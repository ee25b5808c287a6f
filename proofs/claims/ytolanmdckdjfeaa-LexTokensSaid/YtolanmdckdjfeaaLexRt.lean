/- Layer 9: the contract of the reference's text. -/
import Derived.Test.YtolanmdckdjfeaaLexRs
namespace Go.Proofs.Ytolanmdckdjfeaa
open Go.RowKit

def rtR (o : Option (List UInt8 × Nat)) : List UInt8 × Nat := match o with
  | none => ([], 0)
  | some (t, n) => (t, n + 1)
def RtRel (l : List UInt8) (o i : Value) : Prop :=
  ∃ (j : Nat) (xs : List UInt8) (u : ByteArray), 1 ≤ j ∧ j ≤ l.length + 1 ∧ i = .int .i64 (j : Int) ∧ o = .string u ∧ xs.length ≤ j ∧ Hid (u = ofL xs) ∧ Hid (txt (l.drop 1) = (txt (l.drop j)).map fun z => (xs ++ z.1, z.2 + (j - 1)))
def RtPost (R : List UInt8 × Nat) (w : World) (e : Ending) (w' : World) : Prop := e = .returned (.tuple #[.string (ofL R.1), .int .i64 (R.2 : Int)]) ∧ w = w'
theorem RtPost.mk {R : List UInt8 × Nat} {w : World} {u : ByteArray} {t : List UInt8} {n : Nat} (hR : R = (t, n)) (hu : u = ofL t) {i : Int} (hn : i = (n : Int)) : RtPost R w (.returned (.tuple #[.string u, .int .i64 i])) w := by
  subst hR; subst hu; subst hn; exact ⟨rfl, rfl⟩
set_option maxRecDepth 20000 in
set_option maxHeartbeats 2000000 in
theorem rtext_any (s : ByteArray) (l : List UInt8) (hs : s = ofL l) (hl : l.length ≤ 8000) (w : World) :
    Calls Try.prog 54 #[.string s] w (RtPost (rtR (txt (l.drop 1))) w) := by
  have hsz : s.size = l.length := by rw [hs, ofL_size]
  have HS := Lib.hid hs
  have HZ := Lib.hid hsz
  have hs8 : s.size ≤ 8000 := by omega
  clear hs hsz hl
  obtain ⟨R, hR⟩ : ∃ R, R = rtR (txt (l.drop 1)) := ⟨_, rfl⟩
  rw [← hR]
  have HR := Lib.hid hR
  clear hR
  go_enter Try.func54, Try.ntmps54
  go_wp2
  go_loop [4, 5, 12, 20, 48] (fun o i _ _ _ => RtRel l o i) (fun _ i _ _ _ => s.size + 1 - (intOf i).toNat)
  case atStart => exact ⟨1, [], _, by omega, by omega, rfl, rfl, by simp, rfl, by unfold Hid; simp⟩
  case round =>
    obtain ⟨j, xs, u, hj1, hj2, rfl, rfl, hxl, HU, HX⟩ := hrel
    have hul : u.size ≤ 20000 := by rw [HU.out, ofL_size]; have := HZ.out; omega
    by_cases hlt : j < s.size
    · obtain ⟨c, hd, hn, hcj⟩ := drop_cons (l := l) (k := j) (by have := HZ.out; omega)
      have hx := at_ofL HS.out hlt
      rw [hn] at hx
      obtain ⟨x, hxc⟩ : ∃ x, x = c.toNat := ⟨_, rfl⟩
      rw [← hxc] at hx hn
      have HN := Lib.hid hn
      have HXC := Lib.hid hxc
      have HCJ := Lib.hid hcj
      clear hd hn hxc hcj
      by_cases h34 : x = 34
      · have t34 : ((x : Int) == 34) = true := by rw [h34]; rfl
        have hres := Lib.hid (show R = (xs, j + 1) by
          rw [HR.out, HX.out, txt_stop (by rw [HN.out]; exact h34)]
          simp [rtR]; omega)
        clear h34
        go_wp2
        go_ret2
        exact RtPost.mk hres.out HU.out (by omega)
      · have t34 : ((x : Int) == 34) = false := by simp; omega
        have hn34 : nxt (l.drop j) ≠ 34 := by rw [HN.out]; exact h34
        cases he : elm (l.drop j) with
        | none =>
          have hres := Lib.hid (show R = ([], 0) by rw [HR.out, HX.out, txt_none hn34 he]; rfl)
          have hee := he
          unfold elm at hee
          rw [HN.out] at hee
          by_cases h92 : x = 92
          · rw [if_pos h92, List.tail_drop] at hee
            have t92 : ((x : Int) == 92) = true := by rw [h92]; rfl
            clear he h34 hn34 h92
            by_cases h2 : j + 1 < s.size
            · have hy := at_ofL HS.out h2
              obtain ⟨y, hyc⟩ : ∃ y, nxt (l.drop (j + 1)) = y := ⟨_, rfl⟩
              rw [hyc] at hy hee
              have hcE : cE y = false := by
                cases h : cE y with
                | false => rfl
                | true => rw [h, if_pos rfl] at hee; cases hee
              have t1 : ((y : Int) == 34) = false := by simp [cE] at hcE; simp; omega
              have t2 : ((y : Int) == 92) = false := by simp [cE] at hcE; simp; omega
              have h2i : (j : Int) + 1 < (s.size : Int) := by omega
              have hnat : ((j : Int) + 1).toNat = j + 1 := by omega
              clear hee hyc hcE
              go_wp2
              go_ret2
              exact RtPost.mk hres.out rfl rfl
            · have h2i : ¬ (j : Int) + 1 < (s.size : Int) := by omega
              clear hee
              go_wp2
              go_ret2
              exact RtPost.mk hres.out rfl rfl
          · have t92 : ((x : Int) == 92) = false := by simp; omega
            rw [if_neg h92] at hee
            have hbad : x < 32 ∨ 126 < x := by
              by_cases h : 32 ≤ x ∧ x ≤ 126 ∧ x ≠ 34
              · rw [if_pos h] at hee; cases hee
              · omega
            clear he hee h34 hn34 h92
            rcases hbad with hb | hb
            all_goals
              go_wp2
              go_ret2
              exact RtPost.mk hres.out rfl rfl
        | some z =>
          obtain ⟨q, n⟩ := z
          obtain ⟨⟨hn1, hn2, hq⟩, htx⟩ := txt_more hn34 he
          have hnext : Hid (txt (l.drop 1) = (txt (l.drop (j + n))).map fun z => ((xs ++ [UInt8.ofNat q]) ++ z.1, z.2 + (j + n - 1))) := by
            unfold Hid
            rw [HX.out, htx, List.drop_drop]
            cases txt (l.drop (j + n)) with
            | none => rfl
            | some z => simp; omega
          have hee := he
          unfold elm at hee
          rw [HN.out] at hee
          rw [List.length_drop] at hn2
          by_cases h92 : x = 92
          · rw [if_pos h92, List.tail_drop] at hee
            have t92 : ((x : Int) == 92) = true := by rw [h92]; rfl
            obtain ⟨y, hyc⟩ : ∃ y, nxt (l.drop (j + 1)) = y := ⟨_, rfl⟩
            rw [hyc] at hee
            have hcE : cE y = true := by
              cases h : cE y with
              | true => rfl
              | false => rw [h] at hee; simp at hee
            rw [hcE, if_pos rfl] at hee
            simp only [Option.some.injEq, Prod.mk.injEq] at hee
            obtain ⟨rfl, rfl⟩ := hee
            have h2 : j + 1 < s.size := by have := HZ.out; omega
            have hy := at_ofL HS.out h2
            rw [hyc] at hy
            obtain ⟨c2, hd2, hn2', hcj2⟩ := drop_cons (l := l) (k := j + 1) (by have := HZ.out; omega)
            have hex : s.extract (j + 1) (j + 2) = ofL [UInt8.ofNat y] := by
              rw [HS.out, ofL_extract, show j + 2 - (j + 1) = 1 by omega, hd2]
              rw [hyc] at hn2'
              rw [hn2', UInt8.ofNat_toNat]
              rfl
            have HEX := Lib.hid hex
            have hexs : (s.extract (j + 1) (j + 2)).size ≤ 1 := by rw [hex, ofL_size]; simp
            have hstep : Hid (u ++ s.extract (j + 1) (j + 2) = ofL (xs ++ [UInt8.ofNat y])) := by
              unfold Hid
              rw [HU.out, HEX.out, ofL_append]
            have hcase : ((y : Int) == 34) = true ∨ (((y : Int) == 34) = false ∧ ((y : Int) == 92) = true) := by
              simp [cE] at hcE
              rcases hcE with rfl | rfl
              · exact .inl rfl
              · exact .inr ⟨rfl, rfl⟩
            have h2i : (j : Int) + 1 < (s.size : Int) := by omega
            have hnat : ((j : Int) + 1).toNat = j + 1 := by omega
            have hnat2 : ((j : Int) + 1 + 1).toNat = j + 2 := by omega
            have h3i : (j : Int) + 1 + 1 ≤ (s.size : Int) := by omega
            clear he h34 hn34 h92 hyc hcE hd2 hn2' hcj2 hex htx
            rcases hcase with t1 | ⟨t1, t2⟩
            all_goals
              go_wp2
              go_round
              case rel => exact ⟨j + 2, xs ++ [UInt8.ofNat y], _, by omega, by have := HZ.out; omega, by go_num, rfl, by simp; omega, hstep, hnext⟩
              case measure => simp [intOf]; omega
          · rw [if_neg h92] at hee
            have t92 : ((x : Int) == 92) = false := by simp; omega
            have hok : 32 ≤ x ∧ x ≤ 126 := by
              by_cases h : 32 ≤ x ∧ x ≤ 126 ∧ x ≠ 34
              · exact ⟨h.1, h.2.1⟩
              · rw [if_neg h] at hee; cases hee
            rw [if_pos ⟨hok.1, hok.2, h34⟩] at hee
            simp only [Option.some.injEq, Prod.mk.injEq] at hee
            obtain ⟨rfl, rfl⟩ := hee
            obtain ⟨ho1, ho2⟩ := hok
            have hex : s.extract j (j + 1) = ofL [UInt8.ofNat x] := by
              rw [HS.out, ofL_extract, show j + 1 - j = 1 by omega, List.take_one, List.head?_drop, HCJ.out, HXC.out, UInt8.ofNat_toNat]; rfl
            have HEX := Lib.hid hex
            have hexs : (s.extract j (j + 1)).size ≤ 1 := by rw [hex, ofL_size]; simp
            have hstep : Hid (u ++ s.extract j (j + 1) = ofL (xs ++ [UInt8.ofNat x])) := by
              unfold Hid
              rw [HU.out, HEX.out, ofL_append]
            clear he h34 hn34 h92 hex htx
            go_wp2
            go_round
            case rel => exact ⟨j + 1, xs ++ [UInt8.ofNat x], _, by omega, by have := HZ.out; omega, by go_num, rfl, by simp; omega, hstep, hnext⟩
            case measure => simp [intOf]; omega
    · have hres := Lib.hid (show R = ([], 0) by rw [HR.out, HX.out, List.drop_eq_nil_of_le (by have := HZ.out; omega)]; rfl)
      go_wp2
      go_ret2
      exact RtPost.mk hres.out rfl rfl
end Go.Proofs.Ytolanmdckdjfeaa
