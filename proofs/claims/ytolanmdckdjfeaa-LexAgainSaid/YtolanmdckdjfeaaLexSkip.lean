/- Layer 9: the contracts of strings.HasPrefix at two slashes, and of skip. -/
import Derived.Test.YtolanmdckdjfeaaLexScn
import Derived.Deep.LoopGhost
namespace Go.Proofs.Ytolanmdckdjfeaa
open Go.RowKit

def slashes (l : List UInt8) : Bool := decide (nxt l = 47) && decide (nxt l.tail = 47)
theorem slashes_take {l : List UInt8} (h : 2 ≤ l.length) : ((ofL (l.take 2)).toList == [47, 47]) = slashes l := by
  match l, h with
  | c :: d :: r, _ =>
    rw [ofL_toList, slashes, Bool.eq_iff_iff]
    simp [nxt, ← UInt8.toNat_inj]
    exact ⟨fun ⟨a, b⟩ => ⟨decide_eq_true a, decide_eq_true b⟩, fun ⟨a, b⟩ => ⟨of_decide_eq_true a, of_decide_eq_true b⟩⟩
theorem slashes_short {l : List UInt8} (h : ¬ 2 ≤ l.length) : slashes l = false := by
  match l, h with
  | [], _ => rfl
  | [c], _ => simp [slashes, nxt]
  | c :: d :: r, h => simp at h
theorem prefix_lite (l : List UInt8) (w : World) : Calls Try.prog 56 #[.string (ofL l), .string { data := #[47, 47] }] w (BoolIs (slashes l) w) := by
  have hs := Lib.hid (ofL_size l)
  by_cases h : 2 ≤ l.length
  · have h2 : 2 ≤ (ofL l).size := by rw [hs.out]; exact h
    have he := Lib.hid (ofL_extract l 0 2)
    have ht := Lib.hid (show (((ofL l).extract 0 2).toList == [47, 47]) = slashes l by rw [he.out]; exact slashes_take h)
    clear h
    go_enter Try.func56, Try.ntmps56
    go_wp2
    all_goals
      go_ret
      exact BoolIs.mk ht.out
  · have h2 : ¬ 2 ≤ (ofL l).size := by rw [hs.out]; exact h
    have ht := Lib.hid (slashes_short h)
    clear h
    go_enter Try.func56, Try.ntmps56
    go_wp2
    go_ret
    exact BoolIs.mk ht.out.symm
theorem prefix_any (l : List UInt8) (w : World) : Calls Try.prog 42 #[.string (ofL l), .string { data := #[47, 47] }] w (BoolIs (slashes l) w) := by
  go_enter Try.func42, Try.ntmps42
  go_wp2_with (refine (prefix_lite _ _).mono ?_; rintro e w' ⟨rfl, rfl⟩)
  go_ret
  exact ⟨rfl, rfl⟩
theorem sort_namePart : IsSort 31 cN := fun n w => isNamePart_any n w
theorem sort_digit : IsSort 47 cD := fun n w => isDigit_any n w
theorem sort_blank : IsSort 41 cB := fun n w => isBlank_any n w
theorem sort_inLine : IsSort 44 cI := fun n w => isInLine_any n w

section
variable {w : World} {g k : Nat} {l : List UInt8}
def SkRel (w : World) (g : Nat) (l : List UInt8) (k gk : Nat) (wr : World) : Prop := ∃ j : Nat, Scn wr g l j ∧ Only g w wr ∧ k ≤ j ∧ j + sk false (l.drop j) = k + sk false (l.drop k) ∧ cB (nxt (l.drop j)) = false ∧ l.length ≤ gk + j
def SkPost (w : World) (g : Nat) (l : List UInt8) (k : Nat) (e : Ending) (w' : World) : Prop := e = .returned (.tuple #[]) ∧ Scn w' g l (k + sk false (l.drop k)) ∧ Only g w w'
theorem SkRel.blank {wr : World} {j n k' gk : Nat} (hS : Scn wr g l k') (hO : Only g w wr) (hn : spn cB (l.drop j) = n) (hk' : j + n = k') (hkj : k ≤ j) (he : j + sk false (l.drop j) = k + sk false (l.drop k)) (hg : l.length ≤ gk + k') : SkRel w g l k gk wr := by
  refine ⟨k', hS, hO, by omega, ?_, ?_, hg⟩
  · have := sk_blank (l.drop j)
    rw [hn, List.drop_drop, hk'] at this
    omega
  · have := spn_zero (p := cB) (l := l.drop j) rfl
    rwa [hn, List.drop_drop, hk'] at this
theorem slash_step {l : List UInt8} {j n2 j2 : Nat} (hs : slashes (l.drop j) = true) (hn : spn cI (l.drop j) = n2) (hj : j + n2 = j2) : 1 ≤ n2 ∧ j < l.length ∧ j + sk false (l.drop j) = j2 + sk false (l.drop j2) := by
  simp only [slashes, Bool.and_eq_true, decide_eq_true_eq] at hs
  obtain ⟨c, r, hcr⟩ := nxt_pos (l := l.drop j) (by omega)
  have h1 : 1 ≤ spn cI (l.drop j) := spn_pos (p := fun n => !decide (n = 0) && cI n) rfl (by rw [hs.1]; rfl) |> fun _ => by
    rw [hcr, spn, if_pos]
    · omega
    · rw [hcr] at hs; have := hs.1; simp [nxt] at this; simp [cI, this]
  have h2 : j < l.length := by
    have : (l.drop j).length = r.length + 1 := by rw [hcr]; rfl
    simp at this; omega
  have h3 : sk false (l.drop j) = n2 + sk false (l.drop j2) := by
    have := sk_slash (c := c) (r := r) (by have := hs.1; rw [hcr] at this; exact this) (by have := hs.2; rw [hcr] at this; exact this)
    rw [← hcr, hn, List.drop_drop, hj] at this
    exact this
  omega
theorem slash_stop {l : List UInt8} {j : Nat} (hs : slashes (l.drop j) = false) (hb : cB (nxt (l.drop j)) = false) : sk false (l.drop j) = 0 := by
  cases h : l.drop j with
  | nil => rfl
  | cons c r =>
    rw [h] at hs hb
    refine sk_none hb fun h2 => ?_
    have : slashes (c :: r) = true := by
      simp only [slashes, Bool.and_eq_true, decide_eq_true_eq]
      exact h2
    rw [this] at hs; cases hs
set_option maxHeartbeats 400000 in
theorem skip_any (h : Scn w g l k) : Calls Try.prog 23 #[.pointer (some ⟨g, 0, none⟩)] w (SkPost w g l k) := by
  obtain ⟨n, hn⟩ : ∃ n, spn cB (l.drop k) = n := ⟨_, rfl⟩
  obtain ⟨k', hk'⟩ : ∃ k', k + n = k' := ⟨_, rfl⟩
  have HN := Lib.hid hn
  have HK := Lib.hid hk'
  clear hn hk'
  have hgt : Hid (l.length ≤ l.length + k') := by unfold Hid; omega
  have H := Lib.hid h; clear h
  go_enter Try.func23, Try.ntmps23
  go_wp2_with (refine (take_any _ _ sort_blank ent_blank H.out n k' HN.out HK.out).mono ?_; rintro e w1 ⟨rfl, S1, O1⟩)
  go_loopg [] (l.length) (fun gk wr => SkRel w g l k gk wr)
  case atStart => exact SkRel.blank S1 O1 HN.out HK.out (Nat.le_refl _) rfl hgt.out
  case round =>
    obtain ⟨j, S2, O2, hkj, he, hb, hgk⟩ := hrel
    have hE := Lib.hid he
    have hB := Lib.hid hb
    clear S1 O1 he hb HN HK hgt
    have HS2 := Lib.hid S2; clear S2
    have HO2 := Lib.hid O2; clear O2
    cases hsl : slashes (l.drop j) with
    | true =>
      have HSL := Lib.hid hsl; clear hsl
      obtain ⟨n2, hn2⟩ : ∃ n2, spn cI (l.drop j) = n2 := ⟨_, rfl⟩
      obtain ⟨j2, hj2⟩ : ∃ j2, j + n2 = j2 := ⟨_, rfl⟩
      obtain ⟨n3, hn3⟩ : ∃ n3, spn cB (l.drop j2) = n3 := ⟨_, rfl⟩
      obtain ⟨j3, hj3⟩ : ∃ j3, j2 + n3 = j3 := ⟨_, rfl⟩
      have HN2 := Lib.hid hn2
      have HJ2 := Lib.hid hj2
      have HN3 := Lib.hid hn3
      have HJ3 := Lib.hid hj3
      clear hn2 hj2 hn3 hj3
      go_wp2_with fail
      refine (rest_any HS2.out).mono ?_; rintro e w2 ⟨rfl, m, rfl⟩
      go_wp2_with fail
      refine (prefix_any _ _).mono ?_; rintro e w2 ⟨rfl, rfl⟩; rw [HSL.out]
      go_wp2_with fail
      refine (take_any _ _ sort_inLine ent_inLine (HS2.out.drewN m) n2 j2 HN2.out HJ2.out).mono ?_; rintro e w2 ⟨rfl, S3, O3⟩
      go_wp2_with fail
      refine (take_any _ _ sort_blank ent_blank S3 n3 j3 HN3.out HJ3.out).mono ?_; rintro e w3 ⟨rfl, S4, O4⟩
      go_wp2
      go_roundg (gk - 1)
      case rel =>
        have h := slash_step HSL.out HN2.out HJ2.out
        refine SkRel.blank S4 (((HO2.out.drewN m).trans O3).trans O4) HN3.out HJ3.out (by have := HJ2.out; omega) (by have := hE.out; omega) (by have := HJ2.out; have := HJ3.out; omega)
      case measure =>
        have h := slash_step HSL.out HN2.out HJ2.out
        omega
    | false =>
      have HSL := Lib.hid hsl; clear hsl
      go_wp2_with fail
      refine (rest_any HS2.out).mono ?_; rintro e w2 ⟨rfl, m, rfl⟩
      go_wp2_with fail
      refine (prefix_any _ _).mono ?_; rintro e w2 ⟨rfl, rfl⟩; rw [HSL.out]
      go_wp2
      refine bodyPost_ret (v := .tuple #[]) (by simp [results, Try.results23, go_sem]) rfl ⟨rfl, ?_, HO2.out.drewN m⟩
      have h0 := slash_stop HSL.out hB.out
      have := hE.out
      rw [h0] at this
      rw [← this]
      exact HS2.out.drewN m
end
end Go.Proofs.Ytolanmdckdjfeaa
