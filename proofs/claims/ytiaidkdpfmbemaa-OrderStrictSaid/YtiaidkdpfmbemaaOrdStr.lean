/- OrderStrict: for every input the law returns true. -/
import Derived.Test.YtiaidkdpfmbemaaOrdAw
import Derived.Deep.RegionHeld3
namespace Go.Proofs.Ytiaidkdpfmbemaa
open Go.RowKit

theorem befO_nat {n : Nat} {es : List (Int × Int)} (hv : valO n es = true) {a b : Nat} (ha : a < n) (hb : b < n) : befO n es a b = Bf n es a b := by
  unfold befO
  rw [hv, inB_iff.2 ⟨by omega, by omega⟩, inB_iff.2 ⟨by omega, by omega⟩]
  simp
theorem befO_edge {N : Int} {es : List (Int × Int)} (hv : valO N es = true) {p : Int × Int} (hp : p ∈ es) : befO N es p.1 p.2 = true := by
  obtain ⟨_, hed, _⟩ := valO_parts hv
  obtain ⟨h1, h2⟩ := hed p hp
  unfold befO
  rw [hv, h1, h2]
  obtain ⟨a0, a1⟩ := inB_iff.1 h1
  obtain ⟨b0, b1⟩ := inB_iff.1 h2
  have : Bf N es p.1.toNat p.2.toNat = true := by
    refine Bf.edge ?_
    rwa [Int.toNat_of_nonneg a0, Int.toNat_of_nonneg b0]
  rw [this]; rfl
theorem bf_asym {n : Nat} {es : List (Int × Int)} (hc : acyc n es = true) {a b : Nat} (ha : a < n) (hb : b < n) (h : Bf n es a b = true) : a ≠ b ∧ Bf n es b a = false := by
  constructor
  · rintro rfl
    rw [Bf.irr hc (by omega)] at h
    cases h
  · cases h2 : Bf n es b a
    · rfl
    · have := Bf.trans (N := (n : Int)) (by omega) h h2
      rw [Bf.irr hc (by omega)] at this
      cases this
set_option maxRecDepth 20000 in
set_option maxHeartbeats 4000000 in
theorem orderstrict_walk (N : Int) (A : Option Addr) (c : Nat) (es : List (Int × Int)) (w : World) (h : Prs w (.slice A es.length c) es) (hmx : es.length ≤ 9223372036854775807) : Calls Try.prog 6 #[.agg #[.int .i64 N, .slice A es.length c]] w (Ok w) := by
  have hb2 : Below w.heap.size w ((w.alloc (.cells #[.int .i64 N, .slice A es.length c] 24)).alloc (.cells #[.int .i64 N, .slice A es.length c] 27)) := (below_alloc w _).trans ((below_alloc _ _).mono (by simp))
  have hx : ((w.alloc (.cells #[.int .i64 N, .slice A es.length c] 24)).alloc (.cells #[.int .i64 N, .slice A es.length c] 27)).heap[w.heap.size]? = some (.cells #[.int .i64 N, .slice A es.length c] 24 (0, 0)) := ((below_alloc (w.alloc (.cells #[.int .i64 N, .slice A es.length c] 24)) _).block _ (by simp)).trans (heap_alloc_new w _)
  have hm : ((w.alloc (.cells #[.int .i64 N, .slice A es.length c] 24)).alloc (.cells #[.int .i64 N, .slice A es.length c] 27)).heap[w.heap.size + 1]? = some (.cells #[.int .i64 N, .slice A es.length c] 27 (0, 0)) := by
    have := heap_alloc_new (w.alloc (.cells #[.int .i64 N, .slice A es.length c] 24)) (.cells #[.int .i64 N, .slice A es.length c] 27)
    simpa using this
  have hsz : ((w.alloc (.cells #[.int .i64 N, .slice A es.length c] 24)).alloc (.cells #[.int .i64 N, .slice A es.length c] 27)).heap.size = w.heap.size + 2 := by simp
  obtain ⟨W, hW⟩ : ∃ W, W = (w.alloc (.cells #[.int .i64 N, .slice A es.length c] 24)).alloc (.cells #[.int .i64 N, .slice A es.length c] 27) := ⟨_, rfl⟩
  rw [← hW] at hb2 hx hm hsz
  have HW := Lib.hid hW
  have Hb0 := Lib.hid hb2
  have KX := Lib.hid (show ∀ w', Below W.heap.size W w' → w'.heap[w.heap.size]? = some (.cells #[.int .i64 N, .slice A es.length c] 24 (0, 0)) ∧ w'.heap[w.heap.size + 1]? = some (.cells #[.int .i64 N, .slice A es.length c] 27 (0, 0)) from fun w' h => ⟨(h.block _ (by omega)).trans hx, (h.block _ (by omega)).trans hm⟩)
  have KP := Lib.hid (show ∀ w', Below W.heap.size W w' → Prs w' (.slice A es.length c) es from fun w' hw => h.below (bl2 hb2 hw))
  have KE := Lib.hid (show ∀ w', Below W.heap.size W w' → Below w.heap.size w w' from fun w' hw => bl2 hb2 hw)
  clear hW hb2 hx hm h
  cases hf : fewB N es.length with
  | false =>
    have Hf := Lib.hid hf; clear hf
    go_enter Try.func6, Try.ntmps6
    go_wp2_with fail
    rw [← HW.out]
    refine (awake_any W).mono ?_
    rintro e w1 ⟨rfl, hb1⟩
    have B1 := Lib.hid hb1
    clear hb1
    have hxx := KX.out _ B1.out
    have x0 := cell_of_row _ _ 0 _ _ _ hxx.2
    have x1 := cell_of_row _ _ 1 _ _ _ hxx.2
    have o0 := cell_of_row _ _ 0 _ _ _ hxx.1
    have o1 := cell_of_row _ _ 1 _ _ _ hxx.1
    go_wp2_with fail
    refine (few_any _ _ _ _ _).mono ?_
    rintro e w2 ⟨rfl, hb2⟩
    rw [Hf.out]
    have B2 := Lib.hid (bl2 B1.out hb2)
    clear hb2
    clear hxx x0 x1 o0 o1
    have hxx := KX.out _ B2.out
    have x0 := cell_of_row _ _ 0 _ _ _ hxx.2
    have x1 := cell_of_row _ _ 1 _ _ _ hxx.2
    have o0 := cell_of_row _ _ 0 _ _ _ hxx.1
    have o1 := cell_of_row _ _ 1 _ _ _ hxx.1
    go_wp2_with fail
    refine (awake_any _).mono ?_
    rintro e w9 ⟨rfl, hb9⟩
    have B9 := Lib.hid (KE.out _ (bl2 B2.out hb9))
    clear hb9
    go_wp2
    go_ret
    exact ⟨rfl, B9.out⟩
  | true =>
    have hl : es.length ≤ 80 ∧ N ≤ 12 := by
      unfold fewB at hf
      rw [Bool.and_eq_true, decide_eq_true_iff, decide_eq_true_iff] at hf
      exact ⟨hf.2, hf.1⟩
    obtain ⟨hl, hN⟩ := hl
    have hl' : es.length ≤ 100000 := by omega
    have Hf := Lib.hid hf; clear hf
    cases hv : valO N es with
    | false =>
      have Hv := Lib.hid hv; clear hv
      go_enter Try.func6, Try.ntmps6
      go_wp2_with fail
      rw [← HW.out]
      refine (awake_any W).mono ?_
      rintro e w1 ⟨rfl, hb1⟩
      have B1 := Lib.hid hb1
      clear hb1
      have hxx := KX.out _ B1.out
      have x0 := cell_of_row _ _ 0 _ _ _ hxx.2
      have x1 := cell_of_row _ _ 1 _ _ _ hxx.2
      have o0 := cell_of_row _ _ 0 _ _ _ hxx.1
      have o1 := cell_of_row _ _ 1 _ _ _ hxx.1
      go_wp2_with fail
      refine (few_any _ _ _ _ _).mono ?_
      rintro e w2 ⟨rfl, hb2⟩
      rw [Hf.out]
      have B2 := Lib.hid (bl2 B1.out hb2)
      clear hb2
      clear hxx x0 x1 o0 o1
      have hxx := KX.out _ B2.out
      have x0 := cell_of_row _ _ 0 _ _ _ hxx.2
      have x1 := cell_of_row _ _ 1 _ _ _ hxx.2
      have o0 := cell_of_row _ _ 0 _ _ _ hxx.1
      have o1 := cell_of_row _ _ 1 _ _ _ hxx.1
      go_wp2_with fail
      refine (valid_any N _ es _ (KP.out _ B2.out) hl').mono ?_
      rintro e w3 ⟨rfl, hb3⟩
      rw [Hv.out]
      have B3 := Lib.hid (bl2 B2.out hb3)
      clear hb3 hxx x0 x1 o0 o1
      go_wp2_with fail
      refine (awake_any _).mono ?_
      rintro e w9 ⟨rfl, hb9⟩
      have B9 := Lib.hid (KE.out _ (bl2 B3.out hb9))
      clear hb9
      go_wp2
      go_ret
      exact ⟨rfl, B9.out⟩
    | true =>
      have Hv := Lib.hid hv
      obtain ⟨⟨n0, n1, n2⟩, hed, hac⟩ := valO_parts hv
      obtain ⟨n, rfl⟩ : ∃ n : Nat, N = n := ⟨N.toNat, by omega⟩
      have hn : n ≤ 12 := by omega
      have Hed := Lib.hid hed
      have Hac := Lib.hid hac
      clear hv n0 n1 n2 hed hac hN
      go_enter Try.func6, Try.ntmps6
      go_wp2_with fail
      rw [← HW.out]
      refine (awake_any W).mono ?_
      rintro e w1 ⟨rfl, hb1⟩
      have B1 := Lib.hid hb1
      clear hb1
      have hxx := KX.out _ B1.out
      have x0 := cell_of_row _ _ 0 _ _ _ hxx.2
      have x1 := cell_of_row _ _ 1 _ _ _ hxx.2
      have o0 := cell_of_row _ _ 0 _ _ _ hxx.1
      have o1 := cell_of_row _ _ 1 _ _ _ hxx.1
      go_wp2_with fail
      refine (few_any _ _ _ _ _).mono ?_
      rintro e w2 ⟨rfl, hb2⟩
      rw [Hf.out]
      have B2 := Lib.hid (bl2 B1.out hb2)
      clear hb2
      clear hxx x0 x1 o0 o1
      have hxx := KX.out _ B2.out
      have x0 := cell_of_row _ _ 0 _ _ _ hxx.2
      have x1 := cell_of_row _ _ 1 _ _ _ hxx.2
      have o0 := cell_of_row _ _ 0 _ _ _ hxx.1
      have o1 := cell_of_row _ _ 1 _ _ _ hxx.1
      go_wp2_with fail
      refine (valid_any n _ es _ (KP.out _ B2.out) hl').mono ?_
      rintro e w3 ⟨rfl, hb3⟩
      rw [Hv.out]
      have B3 := Lib.hid (bl2 B2.out hb3)
      clear hb3 hxx x0 x1 o0 o1 B2 B1
      have hxx := KX.out _ B3.out
      have x0 := cell_of_row _ _ 0 _ _ _ hxx.2
      have x1 := cell_of_row _ _ 1 _ _ _ hxx.2
      have o0 := cell_of_row _ _ 0 _ _ _ hxx.1
      have o1 := cell_of_row _ _ 1 _ _ _ hxx.1
      go_wp2
      go_loopw [25] (fun i wr => ∃ k : Nat, k ≤ es.length ∧ i = .int .i64 k ∧ Hid (Below W.heap.size W wr)) (fun i _ => es.length - (intOf i).toNat)
      case atStart => exact ⟨0, Nat.zero_le _, rfl, B3⟩
      case round =>
        clear hxx x0 x1 o0 o1 B3
        obtain ⟨k, hk, rfl, B⟩ := hrel
        have hxx := KX.out _ B.out
        have x0 := cell_of_row _ _ 0 _ _ _ hxx.2
        have x1 := cell_of_row _ _ 1 _ _ _ hxx.2
        have o0 := cell_of_row _ _ 0 _ _ _ hxx.1
        have o1 := cell_of_row _ _ 1 _ _ _ hxx.1
        by_cases hlt : k < es.length
        · obtain ⟨ad, c', hs, hcap, hc1, hc2⟩ := prs_cell (KP.out _ B.out) k hlt
          simp only [Value.slice.injEq, true_and] at hs
          obtain ⟨rfl, rfl⟩ := hs
          have Hbe := Lib.hid (befO_edge Hv.out (List.getElem_mem hlt))
          obtain ⟨p, hp⟩ : ∃ p, p = es[k] := ⟨_, rfl⟩
          rw [← hp] at hc1 hc2 Hbe
          clear hp
          obtain ⟨a, b⟩ := p
          dsimp only at hc1 hc2 Hbe
          have k0 : (0 : Int) ≤ (k : Int) := by omega
          have k1 : (k : Int) < (es.length : Int) := by omega
          have KS := Lib.hid (show ∀ w', Below wr.heap.size wr w' → w'.cell? ⟨w.heap.size + 1, 0, none⟩ = some (.int .i64 (n : Int)) ∧ w'.cell? ⟨w.heap.size + 1, 1, none⟩ = some (.slice (some ad) es.length c) ∧ w'.cell? ⟨w.heap.size, 1, none⟩ = some (.slice (some ad) es.length c) ∧ w'.cell? (ad.add (k * 2)) = some (.int .i64 a) ∧ w'.cell? ⟨(ad.add (k * 2)).block, (ad.add (k * 2)).off + 1, none⟩ = some (.int .i64 b) from fun w' h => ⟨cell_of_row _ _ 0 _ _ _ (KX.out _ (bl2 B.out h)).2, cell_of_row _ _ 1 _ _ _ (KX.out _ (bl2 B.out h)).2, cell_of_row _ _ 1 _ _ _ (KX.out _ (bl2 B.out h)).1, (h.cell (World.block_lt_of_cell? _ _ hc1)).trans hc1, (h.cell (World.block_lt_of_cell? _ _ hc2)).trans hc2⟩)
          have hd1 : Below wr.heap.size wr (wr.drewN 1) := Below.drewNs wr 1
          have hS0 := KS.out _ (Below.refl _ wr)
          go_wp2_with fail
          go_region_held3 (fun w' => w'.cell? ⟨w.heap.size + 1, 0, none⟩ = some (.int .i64 (n : Int)) ∧ w'.cell? ⟨w.heap.size + 1, 1, none⟩ = some (.slice (some ad) es.length c) ∧ w'.cell? ⟨w.heap.size, 1, none⟩ = some (.slice (some ad) es.length c) ∧ w'.cell? (ad.add (k * 2)) = some (.int .i64 a) ∧ w'.cell? ⟨(ad.add (k * 2)).block, (ad.add (k * 2)).off + 1, none⟩ = some (.int .i64 b))
            (first | (exact KS.out _ hb5) | (exact hS0) | (exact KS.out _ hd1))
            (first | (go_at_call 15; refine (before_any n a b _ es _ (KP.out _ (bl2 B.out hd1)) hl').mono ?_; rintro e w5 ⟨h5, hb5'⟩; rw [Hbe.out] at h5; subst h5; have hb5 := bl2 hd1 hb5'))
          have B5 := Lib.hid (bl2 B.out hb5)
          clear hb5 hb5' hd1 hS0 KS hc1 hc2 hxx x0 x1 o0 o1
          go_wp2
          go_roundw
          case rel => exact ⟨k + 1, by omega, by go_num, B5⟩
          case measure => simp [intOf]; omega
        · go_wp2
          go_loopw [46] (fun i wr => ∃ a : Nat, a ≤ n ∧ i = .int .i64 a ∧ Hid (Below W.heap.size W wr)) (fun i _ => n - (intOf i).toNat)
          case atStart => exact ⟨0, Nat.zero_le _, rfl, B⟩
          case round =>
            clear hxx x0 x1 o0 o1 B
            obtain ⟨a, ha, rfl, B⟩ := hrel
            have hxx := KX.out _ B.out
            have x0 := cell_of_row _ _ 0 _ _ _ hxx.2
            have x1 := cell_of_row _ _ 1 _ _ _ hxx.2
            have o0 := cell_of_row _ _ 0 _ _ _ hxx.1
            have o1 := cell_of_row _ _ 1 _ _ _ hxx.1
            by_cases hla : a < n
            · go_wp2
              go_loopw [51] (fun i wr => ∃ b : Nat, b ≤ n ∧ i = .int .i64 b ∧ Hid (Below W.heap.size W wr)) (fun i _ => n - (intOf i).toNat)
              case atStart => exact ⟨0, Nat.zero_le _, rfl, B⟩
              case round =>
                clear hxx x0 x1 o0 o1 B
                obtain ⟨b, hb, rfl, B⟩ := hrel
                have hxx := KX.out _ B.out
                have x0 := cell_of_row _ _ 0 _ _ _ hxx.2
                have x1 := cell_of_row _ _ 1 _ _ _ hxx.2
                have o0 := cell_of_row _ _ 0 _ _ _ hxx.1
                have o1 := cell_of_row _ _ 1 _ _ _ hxx.1
                by_cases hlb : b < n
                · cases hab : Bf n es a b with
                  | false =>
                    have Hab := Lib.hid ((befO_nat Hv.out hla hlb).trans hab)
                    clear hab
                    go_wp2_with fail
                    refine (before_any n a b _ es _ (KP.out _ B.out) hl').mono ?_
                    rintro e w4 ⟨rfl, hb4⟩
                    rw [Hab.out]
                    have B4 := Lib.hid (bl2 B.out hb4)
                    clear hb4 hxx x0 x1 o0 o1
                    have hxx := KX.out _ B4.out
                    have x0 := cell_of_row _ _ 0 _ _ _ hxx.2
                    have x1 := cell_of_row _ _ 1 _ _ _ hxx.2
                    have o0 := cell_of_row _ _ 0 _ _ _ hxx.1
                    have o1 := cell_of_row _ _ 1 _ _ _ hxx.1
                    go_wp2
                    go_loopw [71] (fun i wr => ∃ d : Nat, d ≤ n ∧ i = .int .i64 d ∧ Hid (Below W.heap.size W wr)) (fun i _ => n - (intOf i).toNat)
                    case atStart => exact ⟨0, Nat.zero_le _, rfl, B4⟩
                    case round =>
                      clear hxx x0 x1 o0 o1 B4
                      obtain ⟨d, hd, rfl, B4⟩ := hrel
                      have hxx := KX.out _ B4.out
                      have x0 := cell_of_row _ _ 0 _ _ _ hxx.2
                      have x1 := cell_of_row _ _ 1 _ _ _ hxx.2
                      have o0 := cell_of_row _ _ 0 _ _ _ hxx.1
                      have o1 := cell_of_row _ _ 1 _ _ _ hxx.1
                      by_cases hld : d < n
                      · go_wp2_with fail
                        refine (before_any n a b _ es _ (KP.out _ B4.out) hl').mono ?_
                        rintro e w5 ⟨rfl, hb5⟩
                        rw [Hab.out]
                        have B5 := Lib.hid (bl2 B4.out hb5)
                        clear hb5 hxx x0 x1 o0 o1
                        go_wp2
                        go_roundw
                        case rel => exact ⟨d + 1, by omega, by go_num, B5⟩
                        case measure => simp [intOf]; omega
                      · go_wp2
                        go_roundw
                        case rel => exact ⟨b + 1, by omega, by go_num, B4⟩
                        case measure => simp [intOf]; omega
                  | true =>
                    have Hab := Lib.hid ((befO_nat Hv.out hla hlb).trans hab)
                    obtain ⟨hne, hba⟩ := bf_asym Hac.out hla hlb hab
                    have Hba := Lib.hid ((befO_nat Hv.out hlb hla).trans hba)
                    have Htr := Lib.hid (fun d (hd : d < n) (h : Bf n es b d = true) => (befO_nat Hv.out hla hd).trans (Bf.trans (N := (n : Int)) (by omega) hab h))
                    have hne' : ((a : Int) == (b : Int)) = false := by rw [beq_eq_false_iff_ne]; omega
                    clear hab hba
                    go_wp2_with fail
                    refine (before_any n a b _ es _ (KP.out _ B.out) hl').mono ?_
                    rintro e w4 ⟨rfl, hb4⟩
                    rw [Hab.out]
                    have B4 := Lib.hid (bl2 B.out hb4)
                    clear hb4 hxx x0 x1 o0 o1
                    have hxx := KX.out _ B4.out
                    have x0 := cell_of_row _ _ 0 _ _ _ hxx.2
                    have x1 := cell_of_row _ _ 1 _ _ _ hxx.2
                    have o0 := cell_of_row _ _ 0 _ _ _ hxx.1
                    have o1 := cell_of_row _ _ 1 _ _ _ hxx.1
                    go_wp2_with fail
                    refine (before_any n b a _ es _ (KP.out _ B4.out) hl').mono ?_
                    rintro e w5 ⟨rfl, hb5⟩
                    rw [Hba.out]
                    have B5 := Lib.hid (bl2 B4.out hb5)
                    clear hb5 hxx x0 x1 o0 o1
                    have hxx := KX.out _ B5.out
                    have x0 := cell_of_row _ _ 0 _ _ _ hxx.2
                    have x1 := cell_of_row _ _ 1 _ _ _ hxx.2
                    have o0 := cell_of_row _ _ 0 _ _ _ hxx.1
                    have o1 := cell_of_row _ _ 1 _ _ _ hxx.1
                    go_wp2
                    go_loopw [71] (fun i wr => ∃ d : Nat, d ≤ n ∧ i = .int .i64 d ∧ Hid (Below W.heap.size W wr)) (fun i _ => n - (intOf i).toNat)
                    case atStart => exact ⟨0, Nat.zero_le _, rfl, B5⟩
                    case round =>
                      clear hxx x0 x1 o0 o1 B4 B5
                      obtain ⟨d, hd, rfl, B4⟩ := hrel
                      have hxx := KX.out _ B4.out
                      have x0 := cell_of_row _ _ 0 _ _ _ hxx.2
                      have x1 := cell_of_row _ _ 1 _ _ _ hxx.2
                      have o0 := cell_of_row _ _ 0 _ _ _ hxx.1
                      have o1 := cell_of_row _ _ 1 _ _ _ hxx.1
                      by_cases hld : d < n
                      · cases hbd : Bf n es b d with
                        | false =>
                          have Hbd := Lib.hid ((befO_nat Hv.out hlb hld).trans hbd)
                          clear hbd
                          go_wp2_with fail
                          refine (before_any n a b _ es _ (KP.out _ B4.out) hl').mono ?_
                          rintro e w5 ⟨rfl, hb5⟩
                          rw [Hab.out]
                          have B5 := Lib.hid (bl2 B4.out hb5)
                          clear hb5 hxx x0 x1 o0 o1
                          have hxx := KX.out _ B5.out
                          have x0 := cell_of_row _ _ 0 _ _ _ hxx.2
                          have x1 := cell_of_row _ _ 1 _ _ _ hxx.2
                          have o0 := cell_of_row _ _ 0 _ _ _ hxx.1
                          have o1 := cell_of_row _ _ 1 _ _ _ hxx.1
                          go_wp2_with fail
                          refine (before_any n b d _ es _ (KP.out _ B5.out) hl').mono ?_
                          rintro e w6 ⟨rfl, hb6⟩
                          rw [Hbd.out]
                          have B6 := Lib.hid (bl2 B5.out hb6)
                          clear hb6 hxx x0 x1 o0 o1
                          go_wp2
                          go_roundw
                          case rel => exact ⟨d + 1, by omega, by go_num, B6⟩
                          case measure => simp [intOf]; omega
                        | true =>
                          have Hbd := Lib.hid ((befO_nat Hv.out hlb hld).trans hbd)
                          have Had := Lib.hid (Htr.out d hld hbd)
                          clear hbd
                          go_wp2_with fail
                          refine (before_any n a b _ es _ (KP.out _ B4.out) hl').mono ?_
                          rintro e w5 ⟨rfl, hb5⟩
                          rw [Hab.out]
                          have B5 := Lib.hid (bl2 B4.out hb5)
                          clear hb5 hxx x0 x1 o0 o1
                          have hxx := KX.out _ B5.out
                          have x0 := cell_of_row _ _ 0 _ _ _ hxx.2
                          have x1 := cell_of_row _ _ 1 _ _ _ hxx.2
                          have o0 := cell_of_row _ _ 0 _ _ _ hxx.1
                          have o1 := cell_of_row _ _ 1 _ _ _ hxx.1
                          go_wp2_with fail
                          refine (before_any n b d _ es _ (KP.out _ B5.out) hl').mono ?_
                          rintro e w6 ⟨rfl, hb6⟩
                          rw [Hbd.out]
                          have B6 := Lib.hid (bl2 B5.out hb6)
                          clear hb6 hxx x0 x1 o0 o1
                          have hxx := KX.out _ B6.out
                          have x0 := cell_of_row _ _ 0 _ _ _ hxx.2
                          have x1 := cell_of_row _ _ 1 _ _ _ hxx.2
                          have o0 := cell_of_row _ _ 0 _ _ _ hxx.1
                          have o1 := cell_of_row _ _ 1 _ _ _ hxx.1
                          go_wp2_with fail
                          refine (before_any n a d _ es _ (KP.out _ B6.out) hl').mono ?_
                          rintro e w7 ⟨rfl, hb7⟩
                          rw [Had.out]
                          have B7 := Lib.hid (bl2 B6.out hb7)
                          clear hb7 hxx x0 x1 o0 o1
                          go_wp2
                          go_roundw
                          case rel => exact ⟨d + 1, by omega, by go_num, B7⟩
                          case measure => simp [intOf]; omega
                      · go_wp2
                        go_roundw
                        case rel => exact ⟨b + 1, by omega, by go_num, B4⟩
                        case measure => simp [intOf]; omega
                · go_wp2
                  go_roundw
                  case rel => exact ⟨a + 1, by omega, by go_num, B⟩
                  case measure => simp [intOf]; omega
            · go_wp2
              go_ret
              exact ⟨rfl, KE.out _ B.out⟩
end Go.Proofs.Ytiaidkdpfmbemaa
