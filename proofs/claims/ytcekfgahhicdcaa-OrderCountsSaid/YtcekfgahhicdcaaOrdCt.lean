/- How many linear extensions: plain facts. -/
import Derived.Test.YtcekfgahhicdcaaOrdHt
import Derived.Test.YtcekfgahhicdcaaOrdExt
namespace Go.Proofs.Ytcekfgahhicdcaa
open Go.RowKit

/-- The ways on, behind s, f events being left. -/
def wys (ps : List Nat) : Nat → Nat → Nat
  | 0, _ => 1
  | f + 1, s => ((List.range ps.length).map fun e => if rdyW ps s e = true then wys ps f (s ||| 2 ^ e) else 0).sum
def wyL (ps : List Nat) (f s k : Nat) : Nat := ((List.range k).map fun e => if rdyW ps s e = true then wys ps f (s ||| 2 ^ e) else 0).sum
theorem wyL_succ (ps : List Nat) (f s k : Nat) : wyL ps f s (k + 1) = wyL ps f s k + (if rdyW ps s k = true then wys ps f (s ||| 2 ^ k) else 0) := by
  unfold wyL; rw [List.range_succ, List.map_append, List.sum_append]; simp
theorem wys_succ (ps : List Nat) (f s : Nat) : wys ps (f + 1) s = wyL ps f s ps.length := rfl
theorem wyL_mem {ps : List Nat} {f s e : Nat} (hr : rdyW ps s e = true) : ∀ k, e < k → wys ps f (s ||| 2 ^ e) ≤ wyL ps f s k
  | 0, h => by omega
  | k + 1, h => by
    rw [wyL_succ]
    by_cases e' : e = k
    · subst e'; rw [if_pos hr]; omega
    · have := wyL_mem (f := f) hr k (by omega); omega
section
variable {n : Nat} {es : List (Int × Int)}
theorem wys_pos (hc : acyc (n : Int) es = true) : ∀ f s, Un n s = f → 1 ≤ wys (psts (n : Int) es) f s
  | 0, _, _ => Nat.le_refl _
  | f + 1, s, h => by
    obtain ⟨e, he, hr⟩ := ex_next (N := (n : Int)) hc (s := s) (by rw [Int.toNat_natCast]; omega)
    rw [Int.toNat_natCast] at he
    rw [wys_succ, psts_len']
    have h1 := Un_add he (rdy_free hr)
    exact Nat.le_trans (wys_pos hc f _ (by omega)) (wyL_mem hr n he)
/-- What the program counts is the number of ways, up to the limit. -/
theorem exW_is {most : Int} : ∀ (f s : Nat) (c : Int), Un n s = f → 0 ≤ c → c < most → exW (psts (n : Int) es) most f s c = min most (c + (wys (psts (n : Int) es) f s : Nat))
  | 0, s, c, _, _, h => by rw [exW, wys]; omega
  | f + 1, s, c, hu, h0, h => by
    rw [exW_succ (by rw [psts_len']; exact not_full (by omega)), wys_succ, psts_len']
    have key : ∀ k, k ≤ n → exL (psts (n : Int) es) most f s c k = min most (c + (wyL (psts (n : Int) es) f s k : Nat)) := by
      intro k
      induction k with
      | zero => intro _; rw [exL_zero]; simp only [wyL, List.range_zero, List.map_nil, List.sum_nil]; omega
      | succ k ih =>
        intro hk
        have h1 := ih (by omega)
        rw [exL_succ, h1, wyL_succ]
        unfold exS
        cases hr : rdyW (psts (n : Int) es) s k with
        | false => simp
        | true =>
          rw [Bool.and_true]
          by_cases hlt : min most (c + (wyL (psts (n : Int) es) f s k : Nat)) < most
          · rw [decide_eq_true hlt, if_pos rfl, if_pos rfl]
            have hua := Un_add (show k < n by omega) (rdy_free hr)
            rw [exW_is f _ _ (by omega) (by omega) hlt]
            omega
          · rw [decide_eq_false hlt, if_neg (by simp), if_pos rfl]
            omega
    exact key n (Nat.le_refl n)
/-- An edge more never makes the ways more. -/
theorem Pk_mono {E E' : Nat → Nat → Bool} (h : ∀ a b, E a b = true → E' a b = true) : ∀ k a b, Pk E k a b = true → Pk E' k a b = true
  | 0, a, b, h1 => h a b h1
  | k + 1, a, b, h1 => by
    rw [Pk, Bool.or_eq_true, Bool.and_eq_true] at h1 ⊢
    exact h1.imp (Pk_mono h k a b) (And.imp (Pk_mono h k a k) (Pk_mono h k k b))
theorem bf_mono {es' : List (Int × Int)} (h : ∀ p ∈ es, p ∈ es') {a b : Nat} (hb : Bf n es a b = true) : Bf n es' a b = true := by
  unfold Bf at hb ⊢
  refine Pk_mono (fun x y hx => ?_) _ _ _ hb
  unfold Eg at hx ⊢
  rw [List.any_eq_true] at hx ⊢
  obtain ⟨p, hp, h2⟩ := hx
  exact ⟨p, h p hp, h2⟩
theorem rdy_mono {es' : List (Int × Int)} (h : ∀ p ∈ es, p ∈ es') {s e : Nat} (he : e < n) (hr : rdyW (psts (n : Int) es') s e = true) : rdyW (psts (n : Int) es) s e = true := by
  obtain ⟨h1, h2⟩ := (rdy_iff (N := (n : Int)) (by omega)).1 hr
  exact (rdy_iff (N := (n : Int)) (by omega)).2 ⟨h1, fun i hi hb => h2 i hi (bf_mono h hb)⟩
theorem wys_mono {es' : List (Int × Int)} (h : ∀ p ∈ es, p ∈ es') : ∀ f s, wys (psts (n : Int) es') f s ≤ wys (psts (n : Int) es) f s
  | 0, _ => Nat.le_refl _
  | f + 1, s => by
    rw [wys_succ, wys_succ, psts_len', psts_len']
    have key : ∀ k, k ≤ n → wyL (psts (n : Int) es') f s k ≤ wyL (psts (n : Int) es) f s k := by
      intro k
      induction k with
      | zero => intro _; exact Nat.le_refl _
      | succ k ih =>
        intro hk
        rw [wyL_succ, wyL_succ]
        have h1 := ih (by omega)
        cases hr : rdyW (psts (n : Int) es') s k with
        | false => simp only [Bool.false_eq_true, if_false]; omega
        | true =>
          rw [rdy_mono h (by omega) hr]
          simp only [if_true]
          have := wys_mono h f (s ||| 2 ^ k)
          omega
    exact key n (Nat.le_refl n)
/-- Exactly one event is ready. -/
def One (n : Nat) (es : List (Int × Int)) (s e : Nat) : Prop := e < n ∧ rdyW (psts (n : Int) es) s e = true ∧ ∀ x, x < n → rdyW (psts (n : Int) es) s x = true → x = e
theorem one_sum {f s e : Nat} (h : One n es s e) : wys (psts (n : Int) es) (f + 1) s = wys (psts (n : Int) es) f (s ||| 2 ^ e) := by
  rw [wys_succ, psts_len']
  have key : ∀ k, k ≤ n → wyL (psts (n : Int) es) f s k = if e < k then wys (psts (n : Int) es) f (s ||| 2 ^ e) else 0 := by
    intro k
    induction k with
    | zero => intro _; rw [if_neg (by omega)]; rfl
    | succ k ih =>
      intro hk
      rw [wyL_succ, ih (by omega)]
      by_cases ek : e = k
      · subst ek; rw [if_neg (by omega), if_pos h.2.1, if_pos (by omega)]; omega
      · have hr : rdyW (psts (n : Int) es) s k = false := by
          cases hr : rdyW (psts (n : Int) es) s k
          · rfl
          · exact absurd (h.2.2 k (by omega) hr).symm ek
        rw [hr]
        simp only [Bool.false_eq_true, if_false, Nat.add_zero]
        by_cases e1 : e < k
        · rw [if_pos e1, if_pos (show e < k + 1 by omega)]
        · rw [if_neg e1, if_neg (show ¬ e < k + 1 by omega)]
  rw [key n (Nat.le_refl n), if_pos h.1]
theorem one_next {s e : Nat} (h : One n es s e) : nxS (psts (n : Int) es) s n = s ||| 2 ^ e := by
  refine Nat.eq_of_testBit_eq fun i => ?_
  rw [nxS_bit, or_bit]
  by_cases hie : e = i
  · subst hie; rw [h.2.1, decide_eq_true h.1]; simp
  · rw [decide_eq_false hie]
    cases hr : rdyW (psts (n : Int) es) s i
    · simp
    · by_cases hi : i < n
      · exact absurd (h.2.2 i hi hr).symm hie
      · rw [decide_eq_false hi]; simp
theorem two_ways (hc : acyc (n : Int) es = true) {f s x y : Nat} (hu : Un n s = f + 1) (hx : x < n) (hy : y < n) (hxy : x ≠ y) (rx : rdyW (psts (n : Int) es) s x = true) (ry : rdyW (psts (n : Int) es) s y = true) : 2 ≤ wys (psts (n : Int) es) (f + 1) s := by
  have hx1 := wys_pos hc f (s ||| 2 ^ x) (by have := Un_add hx (rdy_free rx); omega)
  have hy1 := wys_pos hc f (s ||| 2 ^ y) (by have := Un_add hy (rdy_free ry); omega)
  rw [wys_succ, psts_len']
  have key : ∀ a b, a < b → b < n → rdyW (psts (n : Int) es) s a = true → rdyW (psts (n : Int) es) s b = true → 1 ≤ wys (psts (n : Int) es) f (s ||| 2 ^ a) → 1 ≤ wys (psts (n : Int) es) f (s ||| 2 ^ b) → ∀ k, b < k → 2 ≤ wyL (psts (n : Int) es) f s k := by
    intro a b hab _ ra rb ha1 hb1 k
    induction k with
    | zero => intro h; omega
    | succ k ih =>
      intro h
      rw [wyL_succ]
      by_cases e : b = k
      · subst e
        have := wyL_mem (f := f) ra b hab
        rw [if_pos rb]; omega
      · have := ih (by omega); omega
  rcases Nat.lt_or_gt_of_ne hxy with h | h
  · exact key x y h hy rx ry hx1 hy1 n hy
  · exact key y x h hx ry rx hy1 hx1 n hx
theorem two_less {s x y : Nat} (hx : x < n) (hy : y < n) (hxy : x ≠ y) (rx : rdyW (psts (n : Int) es) s x = true) (ry : rdyW (psts (n : Int) es) s y = true) : Un n (nxS (psts (n : Int) es) s n) + 2 ≤ Un n s := by
  have h1 := Un_add hx (rdy_free rx)
  have h2 : (s ||| 2 ^ x).testBit y = false := by rw [or_bit, rdy_free ry, decide_eq_false hxy]; rfl
  have h3 := Un_less (s := s ||| 2 ^ x) (t := nxS (psts (n : Int) es) s n) (e := y) (fun i hi => by
    rw [or_bit, Bool.or_eq_true, decide_eq_true_iff] at hi
    rw [nxS_bit]
    rcases hi with hi | hi
    · rw [hi]; rfl
    · subst hi; rw [rx, decide_eq_true hx]; simp) (by rw [nxS_bit, ry, decide_eq_true hy]; simp) h2 hy
  omega
theorem one_or (hc : acyc (n : Int) es = true) {s : Nat} (hu : Un n s ≠ 0) : (∃ e, One n es s e) ∨ ∃ x y, x < n ∧ y < n ∧ x ≠ y ∧ rdyW (psts (n : Int) es) s x = true ∧ rdyW (psts (n : Int) es) s y = true := by
  obtain ⟨e, he, hr⟩ := ex_next (N := (n : Int)) hc (s := s) (by rw [Int.toNat_natCast]; exact hu)
  rw [Int.toNat_natCast] at he
  by_cases h : ∃ x, x < n ∧ rdyW (psts (n : Int) es) s x = true ∧ x ≠ e
  · obtain ⟨x, hx, rx, hxe⟩ := h
    exact .inr ⟨x, e, hx, he, hxe, rx, hr⟩
  · refine .inl ⟨e, he, hr, fun x hx rx => ?_⟩
    by_cases hxe : x = e
    · exact hxe
    · exact absurd ⟨x, hx, rx, hxe⟩ h
/-- One way alone: each round places one event. -/
theorem one_rounds (hc : acyc (n : Int) es = true) (h1 : wys (psts (n : Int) es) n 0 = 1) : ∀ k, k ≤ n → Un n (hS n es k) = n - k ∧ wys (psts (n : Int) es) (n - k) (hS n es k) = 1
  | 0, _ => ⟨by simp only [hS]; rw [Un_all]; rfl, h1⟩
  | k + 1, hk => by
    obtain ⟨h2, h3⟩ := one_rounds hc h1 k (by omega)
    obtain ⟨f, hf⟩ : ∃ f, n - k = f + 1 := ⟨n - k - 1, by omega⟩
    rw [hf] at h2 h3
    have hf2 : n - (k + 1) = f := by omega
    rcases one_or hc (s := hS n es k) (by omega) with ⟨e, he⟩ | ⟨x, y, hx, hy, hxy, rx, ry⟩
    · have hn := one_next he
      have hs := one_sum (f := f) he
      have hu := Un_add he.1 (rdy_free he.2.1)
      rw [hf2, hS, hn]
      exact ⟨by omega, by rw [← hs]; exact h3⟩
    · have := two_ways hc h2 hx hy hxy rx ry
      omega
theorem ht_unique {h h' : Nat} (a : IsHt n es h) (b : IsHt n es h') : h = h' := by
  rcases Nat.lt_trichotomy h h' with hl | rfl | hl
  · exact absurd a.1 (b.2 h hl)
  · rfl
  · exact absurd b.1 (a.2 h' hl)
theorem one_ht (hc : acyc (n : Int) es = true) (h1 : wys (psts (n : Int) es) n 0 = 1) : IsHt n es n := by
  refine ⟨full_of (hS_lt n) (by rw [(one_rounds hc h1 n (Nat.le_refl n)).1]; omega), fun j hj => not_full (by rw [(one_rounds hc h1 j (by omega)).1]; omega)⟩
theorem ht_un (hc : acyc (n : Int) es = true) (h : IsHt n es n) : ∀ d k, k + d = n → Un n (hS n es k) = d := by
  have up : ∀ k, k ≤ n → Un n (hS n es k) + k ≤ n := by
    intro k
    induction k with
    | zero => intro _; simp only [hS]; rw [Un_all]; omega
    | succ k ih =>
      intro hk
      have h1 := ih (by omega)
      have h2 := nx_less hc (s := hS n es k) (fun h0 => h.2 k (by omega) (full_of (hS_lt k) h0))
      rw [hS]; omega
  have down : ∀ d k, k + d = n → d ≤ Un n (hS n es k) := by
    intro d
    induction d with
    | zero => intro k _; exact Nat.zero_le _
    | succ d ih =>
      intro k hk
      have h1 := ih (k + 1) (by omega)
      have h2 := nx_less hc (s := hS n es k) (fun h0 => h.2 k (by omega) (full_of (hS_lt k) h0))
      rw [hS] at h1
      omega
  intro d k hk
  have h1 := up k (by omega)
  have h2 := down d k hk
  omega
theorem ht_one (hc : acyc (n : Int) es = true) (h : IsHt n es n) : ∀ d k, k + d = n → wys (psts (n : Int) es) d (hS n es k) = 1
  | 0, k, _ => rfl
  | d + 1, k, hk => by
    have h1 := ht_un hc h (d + 1) k hk
    have h2 := ht_un hc h d (k + 1) (by omega)
    rcases one_or hc (s := hS n es k) (by omega) with ⟨e, he⟩ | ⟨x, y, hx, hy, hxy, rx, ry⟩
    · rw [one_sum he, ← one_next he]
      exact ht_one hc h d (k + 1) (by omega)
    · have := two_less hx hy hxy rx ry
      rw [hS] at h2
      omega
/-- There is one way alone exactly if the height is the number of events. -/
theorem one_iff (hc : acyc (n : Int) es = true) {h : Nat} (hh : IsHt n es h) : wys (psts (n : Int) es) n 0 = 1 ↔ h = n := by
  constructor
  · intro h1; exact ht_unique hh (one_ht hc h1)
  · rintro rfl
    exact ht_one hc hh h 0 (by omega)
theorem cnt_is {most : Int} (hm : 0 < most) : cntW (psts (n : Int) es) most = min most ((wys (psts (n : Int) es) n 0 : Nat) : Int) := by
  unfold cntW
  rw [psts_len', exW_is n 0 0 (Un_all n) (Int.le_refl _) hm]
  omega
end
end Go.Proofs.Ytcekfgahhicdcaa
