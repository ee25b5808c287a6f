/- The reference's free and Linear. -/
import Derived.Test.YtcekfgahhicdcaaOrdRef
import Derived.Test.YtcekfgahhicdcaaOrdLi
namespace Go.Proofs.Ytcekfgahhicdcaa
open Go.RowKit

theorem own_below_set {w : World} {B e n : Nat} {v : Value} {xs : List Value} (h : w.ownsRow B e 1 v n xs) {a : Addr} (ha : a.block < B) (u : Value) : (w.setCell a u).ownsRow B e 1 v n xs := by
  refine ⟨h.1, ?_⟩
  rcases h.2 with h2 | ⟨g, cap, cur, h1, hb, hh, h3⟩
  · exact .inl h2
  · exact .inr ⟨g, cap, cur, h1, hb, (Below.heap_setCell w a u g (by omega)).trans hh, h3⟩
/-- Is event i free, as far as the events below k say? -/
def okF (B : Nat → Nat → Bool) (s i : Nat) : Nat → Bool
  | 0 => !s.testBit i
  | k + 1 => okF B s i k && (s.testBit k || !B k i)
def frL (n : Nat) (es : List (Int × Int)) (s k : Nat) : List Int := ((List.range k).filter (rdyW (psts (n : Int) es) s)).map fun x : Nat => (x : Int)
theorem okF_iff {B : Nat → Nat → Bool} {s i : Nat} : ∀ k, okF B s i k = true ↔ s.testBit i = false ∧ ∀ j, j < k → B j i = true → s.testBit j = true
  | 0 => by simp [okF]
  | k + 1 => by
    rw [okF, Bool.and_eq_true, okF_iff k]
    constructor
    · rintro ⟨⟨h1, h2⟩, h3⟩
      refine ⟨h1, fun j hj hb => ?_⟩
      by_cases e : j = k
      · subst e; rw [hb] at h3; simpa using h3
      · exact h2 j (by omega) hb
    · rintro ⟨h1, h2⟩
      refine ⟨⟨h1, fun j hj hb => h2 j (by omega) hb⟩, ?_⟩
      cases hb : B k i
      · simp
      · rw [h2 k (by omega) hb]; rfl
theorem okF_rdy {n : Nat} {es : List (Int × Int)} {s i : Nat} (hi : i < n) : okF (fun a b => Bf n es a b) s i n = rdyW (psts (n : Int) es) s i := by
  rw [Bool.eq_iff_iff, okF_iff, rdy_iff (N := (n : Int)) (by omega), Int.toNat_natCast]
theorem frL_succ (n : Nat) (es : List (Int × Int)) (s k : Nat) : frL n es s (k + 1) = frL n es s k ++ (if rdyW (psts (n : Int) es) s k = true then [(k : Int)] else []) := by
  unfold frL
  rw [List.range_succ, List.filter_append, List.map_append]
  cases h : rdyW (psts (n : Int) es) s k <;> simp [h]
theorem frL_first {n : Nat} {es : List (Int × Int)} (hc : acyc (n : Int) es = true) {s : Nat} (h : Un n s ≠ 0) : ∃ t, frL n es s n = ((nxW (psts (n : Int) es) s : Nat) : Int) :: t := by
  obtain ⟨h1, h2, _⟩ := nx_is (N := (n : Int)) hc (s := s) (by rw [Int.toNat_natCast]; exact h)
  rw [Int.toNat_natCast] at h1
  have hne : (List.range n).filter (rdyW (psts (n : Int) es) s) ≠ [] := by
    intro e
    have : nxW (psts (n : Int) es) s ∈ (List.range n).filter (rdyW (psts (n : Int) es) s) := List.mem_filter.2 ⟨List.mem_range.2 h1, h2⟩
    rw [e] at this
    cases this
  have hh := List.head?_filter (p := rdyW (psts (n : Int) es) s) (l := List.range n)
  unfold frL
  cases hf : (List.range n).filter (rdyW (psts (n : Int) es) s) with
  | nil => exact absurd hf hne
  | cons x t =>
    rw [hf, List.head?_cons] at hh
    have : nxW (psts (n : Int) es) s = x := by unfold nxW; rw [psts_len', ← hh]; rfl
    exact ⟨t.map fun x : Nat => (x : Int), by rw [this]; rfl⟩
set_option maxRecDepth 20000 in
set_option maxHeartbeats 4000000 in
theorem free_any (n g d s : Nat) (es : List (Int × Int)) (w : World) (hM : Mx g n (fun i j => Bf n es i j) w) (hd : w.rowIs d 4 n (fun i => .bool (s.testBit i))) (hn : n ≤ 60) :
    Calls Try.prog 40 #[.slice (some ⟨g, 0, none⟩) n n, .slice (some ⟨d, 0, none⟩) n n] w fun e w' => ∃ v, e = .returned v ∧ w'.ownsRow w.heap.size 3 1 v (frL n es s n).length ((frL n es s n).map iv) ∧ Below w.heap.size w w' := by
  have HM := Lib.hid hM; have Hd := Lib.hid hd
  clear hM hd
  go_enter Try.func40, Try.ntmps40
  go_wp2
  go_loopw [5, 6] (fun lv i wr => ∃ m : Nat, m ≤ n ∧ i = .int .i64 m ∧ Hid (wr.ownsRow w.heap.size 3 1 lv (frL n es s m).length ((frL n es s m).map iv)) ∧ Hid (Below w.heap.size w wr)) (fun _ i _ => n - (intOf i).toNat)
  case atStart => exact ⟨0, Nat.zero_le _, rfl, Lib.hid (World.ownsRow_nil _ _ _ _), Lib.hid (Below.refl _ _)⟩
  case round =>
    obtain ⟨m, hm, rfl, Ho, Hb⟩ := hrel
    by_cases hlm : m < n
    · have cd := (Hd.out.of_block (Hb.out.block _ Hd.out.lt)).cell hlm
      have m0 : (0 : Int) ≤ (m : Int) := by omega
      have m1 : (m : Int) < (n : Int) := by omega
      obtain ⟨b0, hb0⟩ : ∃ b, b = okF (fun a b => Bf n es a b) s m 0 := ⟨_, rfl⟩
      have hb0' : (!s.testBit m) = b0 := by rw [hb0]; rfl
      generalize s.testBit m = bm at cd hb0'
      have Hb0 := Lib.hid hb0
      go_wp2
      try rw [hb0']
      clear cd hb0 hb0'
      go_loopw [7, 8] (fun ok j wr2 => ∃ k : Nat, k ≤ n ∧ j = .int .i64 k ∧ ok = .bool (okF (fun a b => Bf n es a b) s m k) ∧ wr2 = wr) (fun _ j _ => n - (intOf j).toNat)
      case atStart => exact ⟨0, Nat.zero_le _, rfl, (by first | rfl | rw [Hb0.out]), rfl⟩
      case round =>
        clear Hb0
        obtain ⟨k, hk, rfl, rfl, rfl⟩ := hrel
        by_cases hlk : k < n
        · have hs := okF.eq_2 (fun a b => Bf n es a b) s m k
          have cdk := (Hd.out.of_block (Hb.out.block _ Hd.out.lt)).cell hlk
          have co := (HM.out.below Hb.out).cellO hlk
          have ci := (HM.out.below Hb.out).cellI hlk hlm
          have k0 : (0 : Int) ≤ (k : Int) := by omega
          have k1 : (k : Int) < (n : Int) := by omega
          have Hsu := Lib.hid hs
          clear hs
          cases hok : okF (fun a b => Bf n es a b) s m k with
          | false =>
            have Hn := Lib.hid (Hsu.out.trans (by rw [hok]; rfl) : okF (fun a b => Bf n es a b) s m (k + 1) = false)
            clear hok cdk co ci
            go_wp2
            go_roundw
            case rel => exact ⟨k + 1, by omega, by go_num, by rw [Hn.out], (by first | rfl | trivial)⟩
            case measure => simp [intOf]; omega
          | true =>
            cases hdk : s.testBit k with
            | true =>
              have Hn := Lib.hid (Hsu.out.trans (by rw [hok, hdk]; rfl) : okF (fun a b => Bf n es a b) s m (k + 1) = true)
              rw [hdk] at cdk
              clear hok hdk co ci
              go_wp2
              go_roundw
              case rel => exact ⟨k + 1, by omega, by go_num, by rw [Hn.out], (by first | rfl | trivial)⟩
              case measure => simp [intOf]; omega
            | false =>
              have Hn := Lib.hid (Hsu.out.trans (by rw [hok, hdk]; simp) : okF (fun a b => Bf n es a b) s m (k + 1) = !Bf n es k m)
              rw [hdk] at cdk
              generalize Bf n es k m = bb at ci Hn
              clear hok hdk
              go_wp2
              go_roundw
              case rel => exact ⟨k + 1, by omega, by go_num, by rw [Hn.out], (by first | rfl | trivial)⟩
              case measure => simp [intOf]; omega
        · obtain rfl : k = n := by omega
          have Hsu := Lib.hid (frL_succ k es s m)
          rw [okF_rdy hlm]
          cases hrd : rdyW (psts (k : Int) es) s m with
          | false =>
            have Hs2 := Lib.hid (show frL k es s (m + 1) = frL k es s m by rw [Hsu.out, hrd]; simp)
            clear hrd Hsu
            go_wp2
            go_roundw
            case rel => exact ⟨m + 1, by omega, by go_num, by rw [Hs2.out]; exact Ho, Hb⟩
            case measure => simp [intOf]; omega
          | true =>
            have Hs2 := Lib.hid (show frL k es s (m + 1) = frL k es s m ++ [(m : Int)] by rw [Hsu.out, hrd]; simp)
            have hsz := Hb.out.size
            have hfl : (frL k es s m).length ≤ m := by unfold frL; rw [List.length_map]; exact Nat.le_trans (List.length_filter_le _ _) (by simp)
            clear hrd Hsu
            go_wp2_with (at_builtin; refine app1S rfl _ _ 31 rfl 3 (.int .i64 0) 8 info_int rfl (by kernel_rfl) w.heap.size _ _ _ rfl Ho.out (.int .i64 (m : Int)) rfl rfl (by omega) (by omega) hsz ?_; intro v' w2 hown2 hfr2; have Hb2 := Lib.hid (hfr2.below hsz); have Hown2 := Lib.hid hown2; clear hown2 hfr2)
            go_roundw
            case rel => exact ⟨m + 1, by omega, by go_num, Lib.hid (by rw [Hs2.out]; simpa [iv] using Hown2.out), Lib.hid (Hb.out.trans Hb2.out)⟩
            case measure => simp [intOf]; omega
    · obtain rfl : m = n := by omega
      go_wp2
      go_ret
      exact ⟨_, rfl, Ho.out, Hb.out⟩
end Go.Proofs.Ytcekfgahhicdcaa
