/- Height of order. -/
import Derived.Test.YtcekfgahhicdcaaOrdLi
namespace Go.Proofs.Ytcekfgahhicdcaa
open Go.RowKit

/-- s with all that is ready behind it, of the events below k. -/
def nxS (ps : List Nat) (s : Nat) : Nat → Nat
  | 0 => s
  | k + 1 => if rdyW ps s k = true then nxS ps s k ||| 2 ^ k else nxS ps s k
/-- What is placed behind k rounds. -/
def hS (n : Nat) (es : List (Int × Int)) : Nat → Nat
  | 0 => 0
  | k + 1 => nxS (psts (n : Int) es) (hS n es k) n
theorem nxS_bit {ps : List Nat} {s i : Nat} : ∀ k, (nxS ps s k).testBit i = (s.testBit i || (decide (i < k) && rdyW ps s i))
  | 0 => by simp [nxS]
  | k + 1 => by
    rw [nxS]
    by_cases e : i = k
    · subst e
      cases h : rdyW ps s i
      · rw [if_neg (by simp), nxS_bit i, h]; simp
      · rw [if_pos rfl, or_bit, nxS_bit i, h]; simp
    · have hd : decide (i < k + 1) = decide (i < k) := decide_eq_decide.2 (by omega)
      rw [hd]
      split
      · rw [or_bit, nxS_bit k, decide_eq_false (show ¬ (k = i) from fun h => e h.symm), Bool.or_false]
      · exact nxS_bit k
theorem nxS_lt {ps : List Nat} {s n : Nat} (hs : s < 2 ^ n) : ∀ k, k ≤ n → nxS ps s k < 2 ^ n
  | 0, _ => hs
  | k + 1, hk => by
    rw [nxS]
    split
    · exact or_lt (nxS_lt hs k (by omega)) (by omega)
    · exact nxS_lt hs k (by omega)
theorem Un_less {s t e : Nat} (hst : ∀ i, s.testBit i = true → t.testBit i = true) (ht : t.testBit e = true) (hs : s.testBit e = false) : ∀ {n : Nat}, e < n → Un n t < Un n s := by
  have hle : ∀ n, Un n t ≤ Un n s := by
    intro n
    induction n with
    | zero => exact Nat.le_refl _
    | succ n ih =>
      rw [Un_succ, Un_succ]
      cases h : s.testBit n
      · simp only [Bool.false_eq_true, if_false]; split <;> omega
      · rw [hst n h]; simp only [if_true]; omega
  intro n
  induction n with
  | zero => intro h; omega
  | succ n ih =>
    intro h
    rw [Un_succ, Un_succ]
    by_cases e' : e = n
    · subst e'
      rw [ht, hs]
      have := hle e
      simp only [if_true, Bool.false_eq_true, if_false]
      omega
    · have h1 := ih (by omega)
      cases h2 : s.testBit n
      · simp only [Bool.false_eq_true, if_false]; split <;> omega
      · rw [hst n h2]; simp only [if_true]; omega
theorem nx_less {n : Nat} {es : List (Int × Int)} (hc : acyc (n : Int) es = true) {s : Nat} (h : Un n s ≠ 0) : Un n (nxS (psts (n : Int) es) s n) < Un n s := by
  obtain ⟨e, he, hr⟩ := ex_next (N := (n : Int)) hc (s := s) (by rw [Int.toNat_natCast]; exact h)
  rw [Int.toNat_natCast] at he
  refine Un_less (e := e) (fun i hi => by rw [nxS_bit, hi]; rfl) ?_ (rdy_free hr) he
  rw [nxS_bit, hr, decide_eq_true he]; simp
theorem hS_lt {n : Nat} {es : List (Int × Int)} : ∀ k, hS n es k < 2 ^ n
  | 0 => Nat.two_pow_pos _
  | k + 1 => nxS_lt (hS_lt k) n (Nat.le_refl n)
/-- h is the number of rounds. -/
def IsHt (n : Nat) (es : List (Int × Int)) (h : Nat) : Prop := hS n es h = 2 ^ n - 1 ∧ ∀ j, j < h → hS n es j ≠ 2 ^ n - 1
def HtP (N : Int) (es : List (Int × Int)) (w : World) (e : Ending) (w' : World) : Prop := Below w.heap.size w w' ∧ ((valO N es = false ∧ e = .returned (.tuple #[.int .i64 0, .int .i64 1])) ∨ (valO N es = true ∧ ∃ h : Nat, IsHt N.toNat es h ∧ h ≤ N.toNat ∧ e = .returned (.tuple #[.int .i64 (h : Int), .int .i64 0])))
set_option maxRecDepth 20000 in
set_option maxHeartbeats 4000000 in
theorem height_any (N : Int) (v : Value) (es : List (Int × Int)) (w : World) (h : Prs w v es) (hl : es.length ≤ 100000) : Calls Try.prog 30 #[.agg #[.int .i64 N, v]] w (HtP N es w) := by
  have H := Lib.hid h; clear h
  cases hv : valO N es with
  | false =>
    have Hv := Lib.hid hv
    have Hr := Lib.hid (show ∀ w', Below w.heap.size w w' → HtP N es w (.returned (.tuple #[.int .i64 0, .int .i64 1])) w' from fun w' hb => ⟨hb, .inl ⟨hv, rfl⟩⟩)
    clear hv
    go_enter Try.func30, Try.ntmps30
    go_wp2_with fail
    refine (pastsof_any N v es _ (H.out.below (below_alloc _ _)) hl).mono ?_
    rintro e w1 ⟨v1, rfl, hb, _⟩
    rw [Hv.out]
    have Hb := Lib.hid (box_low hb)
    clear hb
    go_wp2
    go_ret2
    exact Hr.out _ Hb.out
  | true =>
    have Hv := Lib.hid hv
    obtain ⟨⟨n0, n1, n2⟩, _, hac⟩ := valO_parts hv
    obtain ⟨n, rfl⟩ : ∃ n : Nat, N = n := ⟨N.toNat, by omega⟩
    have hn : n ≤ 60 := by omega
    have Hr := Lib.hid (show ∀ (k : Nat) w', Below w.heap.size w w' → IsHt n es k → k ≤ n → HtP n es w (.returned (.tuple #[.int .i64 (k : Int), .int .i64 0])) w' from fun k w' hb h1 h2 => ⟨hb, .inr ⟨hv, k, by rwa [Int.toNat_natCast], by rwa [Int.toNat_natCast], rfl⟩⟩)
    have Hac := Lib.hid hac
    clear hv n0 n1 hac
    go_enter Try.func30, Try.ntmps30
    go_wp2_with fail
    refine (pastsof_any n v es _ (H.out.below (below_alloc _ _)) hl).mono ?_
    rintro e w1 ⟨v1, rfl, hb, hs⟩
    have Hs := Lib.hid (hs Hv.out)
    have hx := box_keep hb
    have x0 := cell_of_row _ _ 0 _ _ _ hx
    rw [Hv.out]
    have Hbox := Lib.hid hb
    clear hb hs
    go_wp2
    go_loopw [6, 7] (fun hh p wr => ∃ k : Nat, k + Un n (hS n es k) ≤ n ∧ hh = .int .i64 k ∧ p = .int .u64 ((hS n es k : Nat) : Int) ∧ wr = w1 ∧ Hid (∀ j, j < k → hS n es j ≠ 2 ^ n - 1)) (fun hh _ _ => n - (intOf hh).toNat)
    case atStart => exact ⟨0, by simp only [hS]; rw [Un_all]; omega, rfl, rfl, rfl, Lib.hid (fun j h => absurd h (Nat.not_lt_zero j))⟩
    case round =>
      obtain ⟨k, hk, rfl, rfl, rfl, Hno⟩ := hrel
      have hlt := hS_lt (n := n) (es := es) k
      by_cases hfull : hS n es k = 2 ^ n - 1
      · have Hht := Lib.hid (show IsHt n es k from ⟨hfull, Hno.out⟩)
        have hne : (((hS n es k : Nat) : Int) != ((2 ^ n - 1 : Nat) : Int)) = false := by rw [bne_eq_false_iff_eq, hfull]
        have hkn : k ≤ n := by omega
        generalize hS n es k = s at *
        clear hfull hlt
        go_wp2_with fail
        refine (all_any n _ hn).mono ?_
        rintro e w2 ⟨rfl, rfl⟩
        go_wp2
        go_ret2
        exact Hr.out k _ (box_low Hbox.out) Hht.out hkn
      · have hne : (((hS n es k : Nat) : Int) != ((2 ^ n - 1 : Nat) : Int)) = true := by rw [bne_iff_ne]; omega
        have hun : Un n (hS n es k) ≠ 0 := fun h => hfull (full_of hlt h)
        have hless := nx_less Hac.out hun
        have Hnx := Lib.hid (show hS n es (k + 1) = nxS (psts (n : Int) es) (hS n es k) n from rfl)
        have Hno2 := Lib.hid (show ∀ j, j < k + 1 → hS n es j ≠ 2 ^ n - 1 from fun j hj => by
          by_cases e : j = k
          · rw [e]; exact hfull
          · exact Hno.out j (by omega))
        have Hk2 := Lib.hid (show k + 1 + Un n (nxS (psts (n : Int) es) (hS n es k) n) ≤ n by omega)
        have Hlt := Lib.hid hlt
        have Hs64 := Lib.hid (show hS n es k < 2 ^ 64 from Nat.lt_of_lt_of_le hlt (Nat.pow_le_pow_right (by decide) (by omega)))
        have hkn : k < n := by omega
        clear hfull hun hless hk hlt
        generalize hS n es k = s at *
        go_wp2_with fail
        refine (all_any n _ hn).mono ?_
        rintro e w2 ⟨rfl, rfl⟩
        go_wp2
        go_loopw [8, 27] (fun p i wr2 => ∃ m : Nat, m ≤ n ∧ i = .int .i64 m ∧ p = .int .u64 ((nxS (psts (n : Int) es) s m : Nat) : Int) ∧ wr2 = wr) (fun _ i _ => n - (intOf i).toNat)
        case atStart => exact ⟨0, Nat.zero_le _, rfl, rfl, rfl⟩
        case round =>
          obtain ⟨m, hm, rfl, rfl, rfl⟩ := hrel
          by_cases hlm : m < n
          · have Hst := Lib.hid (show nxS (psts (n : Int) es) s (m + 1) = if rdyW (psts (n : Int) es) s m = true then nxS (psts (n : Int) es) s m ||| 2 ^ m else nxS (psts (n : Int) es) s m from rfl)
            have ht64 : nxS (psts (n : Int) es) s m < 2 ^ 64 := Nat.lt_of_lt_of_le (nxS_lt Hlt.out m hm) (Nat.pow_le_pow_right (by decide) (by omega))
            have eor := or_val ht64 (show m < 64 by omega)
            clear ht64
            generalize nxS (psts (n : Int) es) s m = t at *
            cases hrd : rdyW (psts (n : Int) es) s m with
            | false =>
              have Hn := Lib.hid (show nxS (psts (n : Int) es) s (m + 1) = t by rw [Hst.out, hrd]; rfl)
              have Hrd := Lib.hid hrd
              clear hrd
              go_wp2_with fail
              refine (ready_any v1 _ s m _ Hs.out (words_mem hn) (by rw [psts_len']; exact hn) Hs64.out (by rw [psts_len']; exact hlm)).mono ?_
              rintro r w3 ⟨rfl, rfl⟩
              rw [Hrd.out]
              go_wp2
              go_roundw
              case rel => exact ⟨m + 1, by omega, by go_num, by rw [Hn.out], (by first | rfl | trivial)⟩
              case measure => simp [intOf]; omega
            | true =>
              have Hn := Lib.hid (show nxS (psts (n : Int) es) s (m + 1) = t ||| 2 ^ m by rw [Hst.out, hrd]; rfl)
              have Hrd := Lib.hid hrd
              clear hrd
              go_wp2_with fail
              refine (ready_any v1 _ s m _ Hs.out (words_mem hn) (by rw [psts_len']; exact hn) Hs64.out (by rw [psts_len']; exact hlm)).mono ?_
              rintro r w3 ⟨rfl, rfl⟩
              rw [Hrd.out]
              go_wp2_with fail
              refine (only_any m _ (by omega)).mono ?_
              rintro r w3 ⟨rfl, rfl⟩
              go_wp2
              go_roundw
              case rel => exact ⟨m + 1, by omega, by go_num, by rw [Hn.out], (by first | rfl | trivial)⟩
              case measure => simp [intOf]; omega
          · obtain rfl : m = n := by omega
            go_wp2
            go_roundw
            case rel => exact ⟨k + 1, by rw [Hnx.out]; exact Hk2.out, by go_num, by rw [Hnx.out], (by first | rfl | trivial), Hno2⟩
            case measure => simp [intOf]; omega
end Go.Proofs.Ytcekfgahhicdcaa
