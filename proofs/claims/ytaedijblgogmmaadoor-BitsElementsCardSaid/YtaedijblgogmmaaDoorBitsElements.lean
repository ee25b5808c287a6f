/- BitsElements: for every input the law returns true. -/
import Derived.Test.YtaedijblgogmmaaDoorBitsOps
import Derived.Test.YtaedijblgogmmaaDoorBitsLeast
namespace Go.Proofs.YtaedijblgogmmaaDoor
open Go.RowKit

theorem addr_zero (ad : Addr) : ad.add 0 = ad := by simp [Addr.add]
theorem e_has (a : List Nat) (n : Int) : hasI a n = rhas (els a) n := by
  unfold hasI
  by_cases h : 0 ≤ n ∧ n < 4096
  · obtain ⟨k, rfl⟩ : ∃ k : Nat, n = k := ⟨n.toNat, by omega⟩
    rw [decide_eq_true h, rhas_els]
    rfl
  · rw [decide_eq_false h, Bool.false_and, eq_comm, Bool.eq_false_iff]
    intro hh
    obtain ⟨x, hx, he⟩ := List.any_eq_true.1 hh
    have := els_lt hx
    rw [beq_iff_eq] at he
    exact h ⟨by omega, by omega⟩
theorem e_lt {a : List Nat} {k m : Nat} (hk : k < 4096) (h : m ∈ rwith (els a) k) : m < 4096 := by
  rcases (rwith_mem _ _ _).1 h with h | rfl
  · exact els_lt h
  · exact hk
theorem e_with1 (a : List Nat) {k : Nat} (hk : k < 4096) (m : Nat) : has (withM a (k : Int)) m = decide (m ∈ rwith (els a) k) := by
  rw [show withM a (k : Int) = SU a (mk [(k : Int)]) from rfl, hasU, mk1_has k hk, ← mem_has, Bool.eq_iff_iff]
  simp only [Bool.or_eq_true, decide_eq_true_iff, rwith_mem]
theorem mk_out {n : Int} (h : ¬ (0 ≤ n ∧ n < 4096)) (m : Nat) : has (mk [n]) m = false := by
  rw [mk_has, decide_eq_false]
  rintro ⟨h1, h2⟩
  rw [List.mem_singleton] at h2
  omega
theorem e_with2 (a : List Nat) {n : Int} (h : ¬ (0 ≤ n ∧ n < 4096)) (m : Nat) : has (withM a n) m = decide (m ∈ els a) := by
  rw [show withM a n = SU a (mk [n]) from rfl, hasU, mk_out h, Bool.or_false, mem_has]
theorem e_without (a : List Nat) (n : Int) (m : Nat) : has (withoutM a n) m = decide (m ∈ (els a).filter fun x : Nat => (x : Int) != n) := by
  rw [show withoutM a n = SM a (mk [n]) from rfl, hasM, mk_has, ← mem_has a, Bool.eq_iff_iff]
  simp only [Bool.and_eq_true, decide_eq_true_iff, List.mem_filter, Bool.not_eq_true', decide_eq_false_iff_not, List.mem_singleton, bne_iff_ne]
  constructor
  · rintro ⟨h1, h2⟩
    exact ⟨h1, fun h => h2 ⟨els_lt h1, h⟩⟩
  · rintro ⟨h1, h2⟩
    exact ⟨h1, fun h => h2 h.2⟩
set_option maxRecDepth 100000 in
set_option maxHeartbeats 4000000 in
theorem bitselements_walk (Aa : Option Addr) (ca : Nat) (a : List Nat) (n : Int) (w : World) (hT : Tab w) (ha : Sl uv w (.slice Aa a.length ca) a) (wa : Wds a) (la : a.length ≤ 17592186044000) (_ : I64 n) :
    Calls Tryd.prog 4 #[.slice Aa a.length ca, .int .i64 n] w (Ok w) := by
  have fa : Fine a := ⟨wa, by unfold Room2; omega⟩
  have Ha := Lib.hid ha; have Fa := Lib.hid fa
  have HT := Lib.hid hT
  have HB := Lib.hid (Below.refl w.heap.size w)
  clear hT ha wa la fa
  by_cases hcc : a.length ≤ 70
  · have dcc := decide_eq_true (show a.length ≤ 70 ∧ 0 ≤ 70 from ⟨hcc, by decide⟩)
    clear hcc
    obtain ⟨N, hN⟩ : ∃ N, (els a).length = N := ⟨_, rfl⟩
    have hs := (slen_els a).trans hN
    have hN4 := els_len_le a
    rw [hN] at hN4
    obtain ⟨r, hr⟩ : ∃ r, rhas (els a) n = r := ⟨_, rfl⟩
    have hr2 : hasI a n = r := (e_has a n).trans hr
    have HN := Lib.hid hN; have HS := Lib.hid hs; have HR := Lib.hid hr; have HR2 := Lib.hid hr2
    have la := Lib.hid (Nat.le_trans (els_len_le a) (by decide : 4096 ≤ 10000))
    have lw : ∀ m : Nat, (rwith (els a) m).length ≤ 10000 := fun m => by have h1 := rgo_len m (els a); have h2 := els_len_le a; unfold rwith; omega
    have LW := Lib.hid lw
    have rla : Hid (Room2 (els a).length) := Room2.le4 (els_len_le a)
    have FW : Hid (Fine (withM a n)) := Fa.out.withM n
    have FO : Hid (Fine (withoutM a n)) := Fa.out.withoutM n
    clear hs hr hr2 lw hN4
    by_cases hr : 0 ≤ n ∧ n < 4096
    · obtain ⟨k, rfl⟩ : ∃ k : Nat, n = k := ⟨n.toNat, by omega⟩
      have hk4 : k < 4096 := by omega
      have HK4 := Lib.hid hk4
      have d1 : decide (0 ≤ (k : Int)) = true := decide_eq_true (by omega)
      have d2 : decide ((k : Int) < 4096) = true := decide_eq_true (by omega)
      clear hr hk4
      by_cases h0 : N = 0
      · have E0 : Hid ((Value.tuple #[.int .i64 (((els a)[0]?.getD 0 : Nat) : Int), .bool (decide (0 < (els a).length))]) = .tuple #[.int .i64 0, .bool false]) := by
          have h := List.length_eq_zero_iff.1 (HN.out.trans h0)
          show _ = _
          rw [h]; rfl
        subst h0
        clear hN
        go_enter Tryd.func4, Tryd.ntmps4
        go_wp2_with fail
        refine (awake_any _ HT.out).mono ?_
        rintro e w1 ⟨rfl, hb⟩
        replace HB := Lib.hid (HB.out.trans (hb.mono HB.out.size))
        replace Ha := Lib.hid (Ha.out.below hb)
        replace HT := Lib.hid (HT.out.below hb HT.out.size)
        clear hb
        go_wp2_with fail
        refine (few_any _ _ _ _ _ _ _).mono ?_
        rintro e w2 ⟨rfl, rfl⟩
        rw [dcc]
        go_wp2_with fail
        refine (rlist_any _ a _ Ha.out Fa.out.2 Fa.out.1).mono ?_
        rintro e w3 ⟨vx, rfl, hx, hb⟩
        have Hx := Lib.hid hx
        obtain ⟨Ax, cx, rfl⟩ := hx.shape
        rw [HN.out] at Hx ⊢
        clear hx
        replace HB := Lib.hid (HB.out.trans (hb.mono HB.out.size))
        replace Ha := Lib.hid (Ha.out.below hb)
        replace HT := Lib.hid (HT.out.below hb HT.out.size)
        clear hb
        go_wp2_with fail
        refine (rwith_any _ (els a) k _ Hx.out la.out).mono ?_
        rintro e w4 ⟨vy, rfl, hy, hb⟩
        have Hy := Lib.hid hy
        clear hy
        replace HB := Lib.hid (HB.out.trans (hb.mono HB.out.size))
        replace Ha := Lib.hid (Ha.out.below hb)
        replace Hx := Lib.hid (Hx.out.below hb)
        replace HT := Lib.hid (HT.out.below hb HT.out.size)
        clear hb
        go_wp2_with fail
        refine (least_any _ a _ Ha.out Fa.out.2 Fa.out.1 HT.out).mono ?_
        rintro e w5 ⟨rfl, hb⟩
        replace HB := Lib.hid (HB.out.trans (hb.mono HB.out.size))
        replace Ha := Lib.hid (Ha.out.below hb)
        replace Hx := Lib.hid (Hx.out.below hb)
        replace Hy := Lib.hid (Hy.out.below hb)
        replace HT := Lib.hid (HT.out.below hb HT.out.size)
        clear hb
        rw [E0.out]
        go_wp2_with fail
        refine (valid_any _ a _ Ha.out Fa.out.2).mono ?_
        rintro e w6 ⟨rfl, rfl⟩
        go_wp2_with fail
        refine (rvalid_any _ a _ Ha.out Fa.out.2).mono ?_
        rintro e w7 ⟨rfl, rfl⟩
        generalize decide (ulen a = a.length) = vd
        go_wp2_with fail
        refine (has_any _ a _ _ Ha.out Fa.out.2 Fa.out.1).mono ?_
        rintro e w8 ⟨rfl, rfl⟩
        rw [HR2.out]
        go_wp2_with fail
        refine (rhas_any _ (els a) _ _ Hx.out la.out).mono ?_
        rintro e w9 ⟨rfl, rfl⟩
        rw [HR.out]
        go_wp2_with fail
        refine (with_f (k : Int) Ha.out Fa.out).mono ?_
        rintro e w10 ⟨vs, rfl, hs, hb⟩
        have Hs := Lib.hid hs
        clear hs
        replace HB := Lib.hid (HB.out.trans (hb.mono HB.out.size))
        replace Ha := Lib.hid (Ha.out.below hb)
        replace Hx := Lib.hid (Hx.out.below hb)
        replace Hy := Lib.hid (Hy.out.below hb)
        replace HT := Lib.hid (HT.out.below hb HT.out.size)
        clear hb
        have Fs : Hid (Fine (withM a (k : Int))) := FW
        go_wp2_with fail
        refine (lawsame_f Hs.out Hy.out (LW.out k) (fun m h => e_lt HK4.out h) (setop_canon _ _ _) Fs.out.1 (fun m hm => e_with1 a HK4.out m)).mono ?_
        rintro e w11 ⟨rfl, hb⟩
        replace HB := Lib.hid (HB.out.trans (hb.mono HB.out.size))
        replace Ha := Lib.hid (Ha.out.below hb)
        replace Hx := Lib.hid (Hx.out.below hb)
        replace Hy := Lib.hid (Hy.out.below hb)
        replace Hs := Lib.hid (Hs.out.below hb)
        replace HT := Lib.hid (HT.out.below hb HT.out.size)
        clear hb
        clear Hs Fs
        go_wp2_with fail
        refine (without_f (k : Int) Ha.out Fa.out).mono ?_
        rintro e w12 ⟨vs, rfl, hs, hb⟩
        have Hs := Lib.hid hs
        clear hs
        replace HB := Lib.hid (HB.out.trans (hb.mono HB.out.size))
        replace Ha := Lib.hid (Ha.out.below hb)
        replace Hx := Lib.hid (Hx.out.below hb)
        replace Hy := Lib.hid (Hy.out.below hb)
        replace HT := Lib.hid (HT.out.below hb HT.out.size)
        clear hb
        have Fs : Hid (Fine (withoutM a (k : Int))) := FO
        go_wp2_with fail
        refine (rwithout_any _ (els a) (k : Int) _ Hx.out la.out).mono ?_
        rintro e w13 ⟨vz, rfl, hz, hb⟩
        have Hz := Lib.hid hz
        clear hz
        replace HB := Lib.hid (HB.out.trans (hb.mono HB.out.size))
        replace Ha := Lib.hid (Ha.out.below hb)
        replace Hx := Lib.hid (Hx.out.below hb)
        replace Hy := Lib.hid (Hy.out.below hb)
        replace Hs := Lib.hid (Hs.out.below hb)
        replace HT := Lib.hid (HT.out.below hb HT.out.size)
        clear hb
        go_wp2_with fail
        refine (lawsame_f Hs.out Hz.out (Nat.le_trans (List.length_filter_le _ _) la.out) (fun m h => els_lt (List.mem_filter.1 h).1) (setop_canon _ _ _) Fs.out.1 (fun m hm => e_without a (k : Int) m)).mono ?_
        rintro e w14 ⟨rfl, hb⟩
        replace HB := Lib.hid (HB.out.trans (hb.mono HB.out.size))
        replace Ha := Lib.hid (Ha.out.below hb)
        replace Hx := Lib.hid (Hx.out.below hb)
        replace Hy := Lib.hid (Hy.out.below hb)
        replace Hs := Lib.hid (Hs.out.below hb)
        replace Hz := Lib.hid (Hz.out.below hb)
        replace HT := Lib.hid (HT.out.below hb HT.out.size)
        clear hb
        clear Hs Fs
        clear Hz
        go_wp2_with fail
        refine (list_any _ a _ Ha.out Fa.out.2 Fa.out.1 HT.out).mono ?_
        rintro e w15 ⟨vz, rfl, hz, hb⟩
        have Hz := Lib.hid hz
        clear hz
        replace HB := Lib.hid (HB.out.trans (hb.mono HB.out.size))
        replace Ha := Lib.hid (Ha.out.below hb)
        replace Hx := Lib.hid (Hx.out.below hb)
        replace Hy := Lib.hid (Hy.out.below hb)
        replace HT := Lib.hid (HT.out.below hb HT.out.size)
        clear hb
        go_wp2_with fail
        refine (lsame_f Hz.out Hx.out rla.out rla.out true (decide_eq_true rfl)).mono ?_
        rintro e w16 ⟨rfl, hb⟩
        replace HB := Lib.hid (HB.out.trans (hb.mono HB.out.size))
        replace Ha := Lib.hid (Ha.out.below hb)
        replace Hx := Lib.hid (Hx.out.below hb)
        replace Hy := Lib.hid (Hy.out.below hb)
        replace Hz := Lib.hid (Hz.out.below hb)
        replace HT := Lib.hid (HT.out.below hb HT.out.size)
        clear hb
        go_wp2_with fail
        refine (len_f Ha.out Fa.out _ HS.out).mono ?_
        rintro e w17 ⟨rfl, rfl⟩
        go_wp2
        go_ret
        exact ⟨rfl, HB.out⟩
      · obtain ⟨x0, hx0⟩ : ∃ x, (els a)[0]'(by have := HN.out; omega) = x := ⟨_, rfl⟩
        have P0 : Hid (0 < (els a).length) := by have := HN.out; unfold Hid; omega
        have X0 : Hid ((els a)[0]'P0.out = x0) := hx0
        have E1 : Hid ((Value.tuple #[.int .i64 (((els a)[0]?.getD 0 : Nat) : Int), .bool (decide (0 < (els a).length))]) = .tuple #[.int .i64 (x0 : Int), .bool true]) := by
          show _ = _
          rw [decide_eq_true P0.out, List.getElem?_eq_getElem P0.out, Option.getD_some, hx0]
        have hlt0 : 0 < N := by omega
        clear hx0 h0 hN
        go_enter Tryd.func4, Tryd.ntmps4
        go_wp2_with fail
        refine (awake_any _ HT.out).mono ?_
        rintro e w1 ⟨rfl, hb⟩
        replace HB := Lib.hid (HB.out.trans (hb.mono HB.out.size))
        replace Ha := Lib.hid (Ha.out.below hb)
        replace HT := Lib.hid (HT.out.below hb HT.out.size)
        clear hb
        go_wp2_with fail
        refine (few_any _ _ _ _ _ _ _).mono ?_
        rintro e w2 ⟨rfl, rfl⟩
        rw [dcc]
        go_wp2_with fail
        refine (rlist_any _ a _ Ha.out Fa.out.2 Fa.out.1).mono ?_
        rintro e w3 ⟨vx, rfl, hx, hb⟩
        have Hx := Lib.hid hx
        obtain ⟨Ax, cx, rfl⟩ := hx.shape
        rw [HN.out] at Hx ⊢
        clear hx
        replace HB := Lib.hid (HB.out.trans (hb.mono HB.out.size))
        replace Ha := Lib.hid (Ha.out.below hb)
        replace HT := Lib.hid (HT.out.below hb HT.out.size)
        clear hb
        go_wp2_with fail
        refine (rwith_any _ (els a) k _ Hx.out la.out).mono ?_
        rintro e w4 ⟨vy, rfl, hy, hb⟩
        have Hy := Lib.hid hy
        clear hy
        replace HB := Lib.hid (HB.out.trans (hb.mono HB.out.size))
        replace Ha := Lib.hid (Ha.out.below hb)
        replace Hx := Lib.hid (Hx.out.below hb)
        replace HT := Lib.hid (HT.out.below hb HT.out.size)
        clear hb
        go_wp2_with fail
        refine (least_any _ a _ Ha.out Fa.out.2 Fa.out.1 HT.out).mono ?_
        rintro e w5 ⟨rfl, hb⟩
        replace HB := Lib.hid (HB.out.trans (hb.mono HB.out.size))
        replace Ha := Lib.hid (Ha.out.below hb)
        replace Hx := Lib.hid (Hx.out.below hb)
        replace Hy := Lib.hid (Hy.out.below hb)
        replace HT := Lib.hid (HT.out.below hb HT.out.size)
        clear hb
        rw [E1.out]
        obtain ⟨ad0, c0, hs0, hcp0, hcell0⟩ := sl_cell Hx.out 0 P0.out
        simp only [Value.slice.injEq] at hs0
        obtain ⟨rfl, hs1, rfl⟩ := hs0
        rw [addr_zero, X0.out] at hcell0
        rw [HN.out] at hcp0
        unfold nv at hcell0
        clear hs1
        go_wp2_with fail
        refine (valid_any _ a _ Ha.out Fa.out.2).mono ?_
        rintro e w6 ⟨rfl, rfl⟩
        clear hcell0
        go_wp2_with fail
        refine (rvalid_any _ a _ Ha.out Fa.out.2).mono ?_
        rintro e w7 ⟨rfl, rfl⟩
        generalize decide (ulen a = a.length) = vd
        go_wp2_with fail
        refine (has_any _ a _ _ Ha.out Fa.out.2 Fa.out.1).mono ?_
        rintro e w8 ⟨rfl, rfl⟩
        rw [HR2.out]
        go_wp2_with fail
        refine (rhas_any _ (els a) _ _ Hx.out la.out).mono ?_
        rintro e w9 ⟨rfl, rfl⟩
        rw [HR.out]
        go_wp2_with fail
        refine (with_f (k : Int) Ha.out Fa.out).mono ?_
        rintro e w10 ⟨vs, rfl, hs, hb⟩
        have Hs := Lib.hid hs
        clear hs
        replace HB := Lib.hid (HB.out.trans (hb.mono HB.out.size))
        replace Ha := Lib.hid (Ha.out.below hb)
        replace Hx := Lib.hid (Hx.out.below hb)
        replace Hy := Lib.hid (Hy.out.below hb)
        replace HT := Lib.hid (HT.out.below hb HT.out.size)
        clear hb
        have Fs : Hid (Fine (withM a (k : Int))) := FW
        go_wp2_with fail
        refine (lawsame_f Hs.out Hy.out (LW.out k) (fun m h => e_lt HK4.out h) (setop_canon _ _ _) Fs.out.1 (fun m hm => e_with1 a HK4.out m)).mono ?_
        rintro e w11 ⟨rfl, hb⟩
        replace HB := Lib.hid (HB.out.trans (hb.mono HB.out.size))
        replace Ha := Lib.hid (Ha.out.below hb)
        replace Hx := Lib.hid (Hx.out.below hb)
        replace Hy := Lib.hid (Hy.out.below hb)
        replace Hs := Lib.hid (Hs.out.below hb)
        replace HT := Lib.hid (HT.out.below hb HT.out.size)
        clear hb
        clear Hs Fs
        go_wp2_with fail
        refine (without_f (k : Int) Ha.out Fa.out).mono ?_
        rintro e w12 ⟨vs, rfl, hs, hb⟩
        have Hs := Lib.hid hs
        clear hs
        replace HB := Lib.hid (HB.out.trans (hb.mono HB.out.size))
        replace Ha := Lib.hid (Ha.out.below hb)
        replace Hx := Lib.hid (Hx.out.below hb)
        replace Hy := Lib.hid (Hy.out.below hb)
        replace HT := Lib.hid (HT.out.below hb HT.out.size)
        clear hb
        have Fs : Hid (Fine (withoutM a (k : Int))) := FO
        go_wp2_with fail
        refine (rwithout_any _ (els a) (k : Int) _ Hx.out la.out).mono ?_
        rintro e w13 ⟨vz, rfl, hz, hb⟩
        have Hz := Lib.hid hz
        clear hz
        replace HB := Lib.hid (HB.out.trans (hb.mono HB.out.size))
        replace Ha := Lib.hid (Ha.out.below hb)
        replace Hx := Lib.hid (Hx.out.below hb)
        replace Hy := Lib.hid (Hy.out.below hb)
        replace Hs := Lib.hid (Hs.out.below hb)
        replace HT := Lib.hid (HT.out.below hb HT.out.size)
        clear hb
        go_wp2_with fail
        refine (lawsame_f Hs.out Hz.out (Nat.le_trans (List.length_filter_le _ _) la.out) (fun m h => els_lt (List.mem_filter.1 h).1) (setop_canon _ _ _) Fs.out.1 (fun m hm => e_without a (k : Int) m)).mono ?_
        rintro e w14 ⟨rfl, hb⟩
        replace HB := Lib.hid (HB.out.trans (hb.mono HB.out.size))
        replace Ha := Lib.hid (Ha.out.below hb)
        replace Hx := Lib.hid (Hx.out.below hb)
        replace Hy := Lib.hid (Hy.out.below hb)
        replace Hs := Lib.hid (Hs.out.below hb)
        replace Hz := Lib.hid (Hz.out.below hb)
        replace HT := Lib.hid (HT.out.below hb HT.out.size)
        clear hb
        clear Hs Fs
        clear Hz
        go_wp2_with fail
        refine (list_any _ a _ Ha.out Fa.out.2 Fa.out.1 HT.out).mono ?_
        rintro e w15 ⟨vz, rfl, hz, hb⟩
        have Hz := Lib.hid hz
        clear hz
        replace HB := Lib.hid (HB.out.trans (hb.mono HB.out.size))
        replace Ha := Lib.hid (Ha.out.below hb)
        replace Hx := Lib.hid (Hx.out.below hb)
        replace Hy := Lib.hid (Hy.out.below hb)
        replace HT := Lib.hid (HT.out.below hb HT.out.size)
        clear hb
        go_wp2_with fail
        refine (lsame_f Hz.out Hx.out rla.out rla.out true (decide_eq_true rfl)).mono ?_
        rintro e w16 ⟨rfl, hb⟩
        replace HB := Lib.hid (HB.out.trans (hb.mono HB.out.size))
        replace Ha := Lib.hid (Ha.out.below hb)
        replace Hx := Lib.hid (Hx.out.below hb)
        replace Hy := Lib.hid (Hy.out.below hb)
        replace Hz := Lib.hid (Hz.out.below hb)
        replace HT := Lib.hid (HT.out.below hb HT.out.size)
        clear hb
        go_wp2_with fail
        refine (len_f Ha.out Fa.out _ HS.out).mono ?_
        rintro e w17 ⟨rfl, rfl⟩
        go_wp2
        go_ret
        exact ⟨rfl, HB.out⟩
    · have HNR := Lib.hid hr
      by_cases hn0 : 0 ≤ n
      · have d1 : decide (0 ≤ n) = true := decide_eq_true hn0
        have d2 : decide (n < 4096) = false := decide_eq_false fun h => hr ⟨hn0, h⟩
        clear hr hn0
        by_cases h0 : N = 0
        · have E0 : Hid ((Value.tuple #[.int .i64 (((els a)[0]?.getD 0 : Nat) : Int), .bool (decide (0 < (els a).length))]) = .tuple #[.int .i64 0, .bool false]) := by
            have h := List.length_eq_zero_iff.1 (HN.out.trans h0)
            show _ = _
            rw [h]; rfl
          subst h0
          clear hN
          go_enter Tryd.func4, Tryd.ntmps4
          go_wp2_with fail
          refine (awake_any _ HT.out).mono ?_
          rintro e w1 ⟨rfl, hb⟩
          replace HB := Lib.hid (HB.out.trans (hb.mono HB.out.size))
          replace Ha := Lib.hid (Ha.out.below hb)
          replace HT := Lib.hid (HT.out.below hb HT.out.size)
          clear hb
          go_wp2_with fail
          refine (few_any _ _ _ _ _ _ _).mono ?_
          rintro e w2 ⟨rfl, rfl⟩
          rw [dcc]
          go_wp2_with fail
          refine (rlist_any _ a _ Ha.out Fa.out.2 Fa.out.1).mono ?_
          rintro e w3 ⟨vx, rfl, hx, hb⟩
          have Hx := Lib.hid hx
          obtain ⟨Ax, cx, rfl⟩ := hx.shape
          rw [HN.out] at Hx ⊢
          clear hx
          replace HB := Lib.hid (HB.out.trans (hb.mono HB.out.size))
          replace Ha := Lib.hid (Ha.out.below hb)
          replace HT := Lib.hid (HT.out.below hb HT.out.size)
          clear hb
          go_wp2_with fail
          refine (least_any _ a _ Ha.out Fa.out.2 Fa.out.1 HT.out).mono ?_
          rintro e w4 ⟨rfl, hb⟩
          replace HB := Lib.hid (HB.out.trans (hb.mono HB.out.size))
          replace Ha := Lib.hid (Ha.out.below hb)
          replace Hx := Lib.hid (Hx.out.below hb)
          replace HT := Lib.hid (HT.out.below hb HT.out.size)
          clear hb
          rw [E0.out]
          go_wp2_with fail
          refine (valid_any _ a _ Ha.out Fa.out.2).mono ?_
          rintro e w5 ⟨rfl, rfl⟩
          go_wp2_with fail
          refine (rvalid_any _ a _ Ha.out Fa.out.2).mono ?_
          rintro e w6 ⟨rfl, rfl⟩
          generalize decide (ulen a = a.length) = vd
          go_wp2_with fail
          refine (has_any _ a _ _ Ha.out Fa.out.2 Fa.out.1).mono ?_
          rintro e w7 ⟨rfl, rfl⟩
          rw [HR2.out]
          go_wp2_with fail
          refine (rhas_any _ (els a) _ _ Hx.out la.out).mono ?_
          rintro e w8 ⟨rfl, rfl⟩
          rw [HR.out]
          go_wp2_with fail
          refine (with_f n Ha.out Fa.out).mono ?_
          rintro e w9 ⟨vs, rfl, hs, hb⟩
          have Hs := Lib.hid hs
          clear hs
          replace HB := Lib.hid (HB.out.trans (hb.mono HB.out.size))
          replace Ha := Lib.hid (Ha.out.below hb)
          replace Hx := Lib.hid (Hx.out.below hb)
          replace HT := Lib.hid (HT.out.below hb HT.out.size)
          clear hb
          have Fs : Hid (Fine (withM a n)) := FW
          go_wp2_with fail
          refine (lawsame_f Hs.out Hx.out la.out (fun m h => els_lt h) (setop_canon _ _ _) Fs.out.1 (fun m hm => e_with2 a HNR.out m)).mono ?_
          rintro e w10 ⟨rfl, hb⟩
          replace HB := Lib.hid (HB.out.trans (hb.mono HB.out.size))
          replace Ha := Lib.hid (Ha.out.below hb)
          replace Hx := Lib.hid (Hx.out.below hb)
          replace Hs := Lib.hid (Hs.out.below hb)
          replace HT := Lib.hid (HT.out.below hb HT.out.size)
          clear hb
          clear Hs Fs
          go_wp2_with fail
          refine (without_f n Ha.out Fa.out).mono ?_
          rintro e w11 ⟨vs, rfl, hs, hb⟩
          have Hs := Lib.hid hs
          clear hs
          replace HB := Lib.hid (HB.out.trans (hb.mono HB.out.size))
          replace Ha := Lib.hid (Ha.out.below hb)
          replace Hx := Lib.hid (Hx.out.below hb)
          replace HT := Lib.hid (HT.out.below hb HT.out.size)
          clear hb
          have Fs : Hid (Fine (withoutM a n)) := FO
          go_wp2_with fail
          refine (rwithout_any _ (els a) n _ Hx.out la.out).mono ?_
          rintro e w12 ⟨vz, rfl, hz, hb⟩
          have Hz := Lib.hid hz
          clear hz
          replace HB := Lib.hid (HB.out.trans (hb.mono HB.out.size))
          replace Ha := Lib.hid (Ha.out.below hb)
          replace Hx := Lib.hid (Hx.out.below hb)
          replace Hs := Lib.hid (Hs.out.below hb)
          replace HT := Lib.hid (HT.out.below hb HT.out.size)
          clear hb
          go_wp2_with fail
          refine (lawsame_f Hs.out Hz.out (Nat.le_trans (List.length_filter_le _ _) la.out) (fun m h => els_lt (List.mem_filter.1 h).1) (setop_canon _ _ _) Fs.out.1 (fun m hm => e_without a n m)).mono ?_
          rintro e w13 ⟨rfl, hb⟩
          replace HB := Lib.hid (HB.out.trans (hb.mono HB.out.size))
          replace Ha := Lib.hid (Ha.out.below hb)
          replace Hx := Lib.hid (Hx.out.below hb)
          replace Hs := Lib.hid (Hs.out.below hb)
          replace Hz := Lib.hid (Hz.out.below hb)
          replace HT := Lib.hid (HT.out.below hb HT.out.size)
          clear hb
          clear Hs Fs
          clear Hz
          go_wp2_with fail
          refine (list_any _ a _ Ha.out Fa.out.2 Fa.out.1 HT.out).mono ?_
          rintro e w14 ⟨vz, rfl, hz, hb⟩
          have Hz := Lib.hid hz
          clear hz
          replace HB := Lib.hid (HB.out.trans (hb.mono HB.out.size))
          replace Ha := Lib.hid (Ha.out.below hb)
          replace Hx := Lib.hid (Hx.out.below hb)
          replace HT := Lib.hid (HT.out.below hb HT.out.size)
          clear hb
          go_wp2_with fail
          refine (lsame_f Hz.out Hx.out rla.out rla.out true (decide_eq_true rfl)).mono ?_
          rintro e w15 ⟨rfl, hb⟩
          replace HB := Lib.hid (HB.out.trans (hb.mono HB.out.size))
          replace Ha := Lib.hid (Ha.out.below hb)
          replace Hx := Lib.hid (Hx.out.below hb)
          replace Hz := Lib.hid (Hz.out.below hb)
          replace HT := Lib.hid (HT.out.below hb HT.out.size)
          clear hb
          go_wp2_with fail
          refine (len_f Ha.out Fa.out _ HS.out).mono ?_
          rintro e w16 ⟨rfl, rfl⟩
          go_wp2
          go_ret
          exact ⟨rfl, HB.out⟩
        · obtain ⟨x0, hx0⟩ : ∃ x, (els a)[0]'(by have := HN.out; omega) = x := ⟨_, rfl⟩
          have P0 : Hid (0 < (els a).length) := by have := HN.out; unfold Hid; omega
          have X0 : Hid ((els a)[0]'P0.out = x0) := hx0
          have E1 : Hid ((Value.tuple #[.int .i64 (((els a)[0]?.getD 0 : Nat) : Int), .bool (decide (0 < (els a).length))]) = .tuple #[.int .i64 (x0 : Int), .bool true]) := by
            show _ = _
            rw [decide_eq_true P0.out, List.getElem?_eq_getElem P0.out, Option.getD_some, hx0]
          have hlt0 : 0 < N := by omega
          clear hx0 h0 hN
          go_enter Tryd.func4, Tryd.ntmps4
          go_wp2_with fail
          refine (awake_any _ HT.out).mono ?_
          rintro e w1 ⟨rfl, hb⟩
          replace HB := Lib.hid (HB.out.trans (hb.mono HB.out.size))
          replace Ha := Lib.hid (Ha.out.below hb)
          replace HT := Lib.hid (HT.out.below hb HT.out.size)
          clear hb
          go_wp2_with fail
          refine (few_any _ _ _ _ _ _ _).mono ?_
          rintro e w2 ⟨rfl, rfl⟩
          rw [dcc]
          go_wp2_with fail
          refine (rlist_any _ a _ Ha.out Fa.out.2 Fa.out.1).mono ?_
          rintro e w3 ⟨vx, rfl, hx, hb⟩
          have Hx := Lib.hid hx
          obtain ⟨Ax, cx, rfl⟩ := hx.shape
          rw [HN.out] at Hx ⊢
          clear hx
          replace HB := Lib.hid (HB.out.trans (hb.mono HB.out.size))
          replace Ha := Lib.hid (Ha.out.below hb)
          replace HT := Lib.hid (HT.out.below hb HT.out.size)
          clear hb
          go_wp2_with fail
          refine (least_any _ a _ Ha.out Fa.out.2 Fa.out.1 HT.out).mono ?_
          rintro e w4 ⟨rfl, hb⟩
          replace HB := Lib.hid (HB.out.trans (hb.mono HB.out.size))
          replace Ha := Lib.hid (Ha.out.below hb)
          replace Hx := Lib.hid (Hx.out.below hb)
          replace HT := Lib.hid (HT.out.below hb HT.out.size)
          clear hb
          rw [E1.out]
          obtain ⟨ad0, c0, hs0, hcp0, hcell0⟩ := sl_cell Hx.out 0 P0.out
          simp only [Value.slice.injEq] at hs0
          obtain ⟨rfl, hs1, rfl⟩ := hs0
          rw [addr_zero, X0.out] at hcell0
          rw [HN.out] at hcp0
          unfold nv at hcell0
          clear hs1
          go_wp2_with fail
          refine (valid_any _ a _ Ha.out Fa.out.2).mono ?_
          rintro e w5 ⟨rfl, rfl⟩
          clear hcell0
          go_wp2_with fail
          refine (rvalid_any _ a _ Ha.out Fa.out.2).mono ?_
          rintro e w6 ⟨rfl, rfl⟩
          generalize decide (ulen a = a.length) = vd
          go_wp2_with fail
          refine (has_any _ a _ _ Ha.out Fa.out.2 Fa.out.1).mono ?_
          rintro e w7 ⟨rfl, rfl⟩
          rw [HR2.out]
          go_wp2_with fail
          refine (rhas_any _ (els a) _ _ Hx.out la.out).mono ?_
          rintro e w8 ⟨rfl, rfl⟩
          rw [HR.out]
          go_wp2_with fail
          refine (with_f n Ha.out Fa.out).mono ?_
          rintro e w9 ⟨vs, rfl, hs, hb⟩
          have Hs := Lib.hid hs
          clear hs
          replace HB := Lib.hid (HB.out.trans (hb.mono HB.out.size))
          replace Ha := Lib.hid (Ha.out.below hb)
          replace Hx := Lib.hid (Hx.out.below hb)
          replace HT := Lib.hid (HT.out.below hb HT.out.size)
          clear hb
          have Fs : Hid (Fine (withM a n)) := FW
          go_wp2_with fail
          refine (lawsame_f Hs.out Hx.out la.out (fun m h => els_lt h) (setop_canon _ _ _) Fs.out.1 (fun m hm => e_with2 a HNR.out m)).mono ?_
          rintro e w10 ⟨rfl, hb⟩
          replace HB := Lib.hid (HB.out.trans (hb.mono HB.out.size))
          replace Ha := Lib.hid (Ha.out.below hb)
          replace Hx := Lib.hid (Hx.out.below hb)
          replace Hs := Lib.hid (Hs.out.below hb)
          replace HT := Lib.hid (HT.out.below hb HT.out.size)
          clear hb
          clear Hs Fs
          go_wp2_with fail
          refine (without_f n Ha.out Fa.out).mono ?_
          rintro e w11 ⟨vs, rfl, hs, hb⟩
          have Hs := Lib.hid hs
          clear hs
          replace HB := Lib.hid (HB.out.trans (hb.mono HB.out.size))
          replace Ha := Lib.hid (Ha.out.below hb)
          replace Hx := Lib.hid (Hx.out.below hb)
          replace HT := Lib.hid (HT.out.below hb HT.out.size)
          clear hb
          have Fs : Hid (Fine (withoutM a n)) := FO
          go_wp2_with fail
          refine (rwithout_any _ (els a) n _ Hx.out la.out).mono ?_
          rintro e w12 ⟨vz, rfl, hz, hb⟩
          have Hz := Lib.hid hz
          clear hz
          replace HB := Lib.hid (HB.out.trans (hb.mono HB.out.size))
          replace Ha := Lib.hid (Ha.out.below hb)
          replace Hx := Lib.hid (Hx.out.below hb)
          replace Hs := Lib.hid (Hs.out.below hb)
          replace HT := Lib.hid (HT.out.below hb HT.out.size)
          clear hb
          go_wp2_with fail
          refine (lawsame_f Hs.out Hz.out (Nat.le_trans (List.length_filter_le _ _) la.out) (fun m h => els_lt (List.mem_filter.1 h).1) (setop_canon _ _ _) Fs.out.1 (fun m hm => e_without a n m)).mono ?_
          rintro e w13 ⟨rfl, hb⟩
          replace HB := Lib.hid (HB.out.trans (hb.mono HB.out.size))
          replace Ha := Lib.hid (Ha.out.below hb)
          replace Hx := Lib.hid (Hx.out.below hb)
          replace Hs := Lib.hid (Hs.out.below hb)
          replace Hz := Lib.hid (Hz.out.below hb)
          replace HT := Lib.hid (HT.out.below hb HT.out.size)
          clear hb
          clear Hs Fs
          clear Hz
          go_wp2_with fail
          refine (list_any _ a _ Ha.out Fa.out.2 Fa.out.1 HT.out).mono ?_
          rintro e w14 ⟨vz, rfl, hz, hb⟩
          have Hz := Lib.hid hz
          clear hz
          replace HB := Lib.hid (HB.out.trans (hb.mono HB.out.size))
          replace Ha := Lib.hid (Ha.out.below hb)
          replace Hx := Lib.hid (Hx.out.below hb)
          replace HT := Lib.hid (HT.out.below hb HT.out.size)
          clear hb
          go_wp2_with fail
          refine (lsame_f Hz.out Hx.out rla.out rla.out true (decide_eq_true rfl)).mono ?_
          rintro e w15 ⟨rfl, hb⟩
          replace HB := Lib.hid (HB.out.trans (hb.mono HB.out.size))
          replace Ha := Lib.hid (Ha.out.below hb)
          replace Hx := Lib.hid (Hx.out.below hb)
          replace Hz := Lib.hid (Hz.out.below hb)
          replace HT := Lib.hid (HT.out.below hb HT.out.size)
          clear hb
          go_wp2_with fail
          refine (len_f Ha.out Fa.out _ HS.out).mono ?_
          rintro e w16 ⟨rfl, rfl⟩
          go_wp2
          go_ret
          exact ⟨rfl, HB.out⟩
      · have d1 : decide (0 ≤ n) = false := decide_eq_false hn0
        clear hr hn0
        by_cases h0 : N = 0
        · have E0 : Hid ((Value.tuple #[.int .i64 (((els a)[0]?.getD 0 : Nat) : Int), .bool (decide (0 < (els a).length))]) = .tuple #[.int .i64 0, .bool false]) := by
            have h := List.length_eq_zero_iff.1 (HN.out.trans h0)
            show _ = _
            rw [h]; rfl
          subst h0
          clear hN
          go_enter Tryd.func4, Tryd.ntmps4
          go_wp2_with fail
          refine (awake_any _ HT.out).mono ?_
          rintro e w1 ⟨rfl, hb⟩
          replace HB := Lib.hid (HB.out.trans (hb.mono HB.out.size))
          replace Ha := Lib.hid (Ha.out.below hb)
          replace HT := Lib.hid (HT.out.below hb HT.out.size)
          clear hb
          go_wp2_with fail
          refine (few_any _ _ _ _ _ _ _).mono ?_
          rintro e w2 ⟨rfl, rfl⟩
          rw [dcc]
          go_wp2_with fail
          refine (rlist_any _ a _ Ha.out Fa.out.2 Fa.out.1).mono ?_
          rintro e w3 ⟨vx, rfl, hx, hb⟩
          have Hx := Lib.hid hx
          obtain ⟨Ax, cx, rfl⟩ := hx.shape
          rw [HN.out] at Hx ⊢
          clear hx
          replace HB := Lib.hid (HB.out.trans (hb.mono HB.out.size))
          replace Ha := Lib.hid (Ha.out.below hb)
          replace HT := Lib.hid (HT.out.below hb HT.out.size)
          clear hb
          go_wp2_with fail
          refine (least_any _ a _ Ha.out Fa.out.2 Fa.out.1 HT.out).mono ?_
          rintro e w4 ⟨rfl, hb⟩
          replace HB := Lib.hid (HB.out.trans (hb.mono HB.out.size))
          replace Ha := Lib.hid (Ha.out.below hb)
          replace Hx := Lib.hid (Hx.out.below hb)
          replace HT := Lib.hid (HT.out.below hb HT.out.size)
          clear hb
          rw [E0.out]
          go_wp2_with fail
          refine (valid_any _ a _ Ha.out Fa.out.2).mono ?_
          rintro e w5 ⟨rfl, rfl⟩
          go_wp2_with fail
          refine (rvalid_any _ a _ Ha.out Fa.out.2).mono ?_
          rintro e w6 ⟨rfl, rfl⟩
          generalize decide (ulen a = a.length) = vd
          go_wp2_with fail
          refine (has_any _ a _ _ Ha.out Fa.out.2 Fa.out.1).mono ?_
          rintro e w7 ⟨rfl, rfl⟩
          rw [HR2.out]
          go_wp2_with fail
          refine (rhas_any _ (els a) _ _ Hx.out la.out).mono ?_
          rintro e w8 ⟨rfl, rfl⟩
          rw [HR.out]
          go_wp2_with fail
          refine (with_f n Ha.out Fa.out).mono ?_
          rintro e w9 ⟨vs, rfl, hs, hb⟩
          have Hs := Lib.hid hs
          clear hs
          replace HB := Lib.hid (HB.out.trans (hb.mono HB.out.size))
          replace Ha := Lib.hid (Ha.out.below hb)
          replace Hx := Lib.hid (Hx.out.below hb)
          replace HT := Lib.hid (HT.out.below hb HT.out.size)
          clear hb
          have Fs : Hid (Fine (withM a n)) := FW
          go_wp2_with fail
          refine (lawsame_f Hs.out Hx.out la.out (fun m h => els_lt h) (setop_canon _ _ _) Fs.out.1 (fun m hm => e_with2 a HNR.out m)).mono ?_
          rintro e w10 ⟨rfl, hb⟩
          replace HB := Lib.hid (HB.out.trans (hb.mono HB.out.size))
          replace Ha := Lib.hid (Ha.out.below hb)
          replace Hx := Lib.hid (Hx.out.below hb)
          replace Hs := Lib.hid (Hs.out.below hb)
          replace HT := Lib.hid (HT.out.below hb HT.out.size)
          clear hb
          clear Hs Fs
          go_wp2_with fail
          refine (without_f n Ha.out Fa.out).mono ?_
          rintro e w11 ⟨vs, rfl, hs, hb⟩
          have Hs := Lib.hid hs
          clear hs
          replace HB := Lib.hid (HB.out.trans (hb.mono HB.out.size))
          replace Ha := Lib.hid (Ha.out.below hb)
          replace Hx := Lib.hid (Hx.out.below hb)
          replace HT := Lib.hid (HT.out.below hb HT.out.size)
          clear hb
          have Fs : Hid (Fine (withoutM a n)) := FO
          go_wp2_with fail
          refine (rwithout_any _ (els a) n _ Hx.out la.out).mono ?_
          rintro e w12 ⟨vz, rfl, hz, hb⟩
          have Hz := Lib.hid hz
          clear hz
          replace HB := Lib.hid (HB.out.trans (hb.mono HB.out.size))
          replace Ha := Lib.hid (Ha.out.below hb)
          replace Hx := Lib.hid (Hx.out.below hb)
          replace Hs := Lib.hid (Hs.out.below hb)
          replace HT := Lib.hid (HT.out.below hb HT.out.size)
          clear hb
          go_wp2_with fail
          refine (lawsame_f Hs.out Hz.out (Nat.le_trans (List.length_filter_le _ _) la.out) (fun m h => els_lt (List.mem_filter.1 h).1) (setop_canon _ _ _) Fs.out.1 (fun m hm => e_without a n m)).mono ?_
          rintro e w13 ⟨rfl, hb⟩
          replace HB := Lib.hid (HB.out.trans (hb.mono HB.out.size))
          replace Ha := Lib.hid (Ha.out.below hb)
          replace Hx := Lib.hid (Hx.out.below hb)
          replace Hs := Lib.hid (Hs.out.below hb)
          replace Hz := Lib.hid (Hz.out.below hb)
          replace HT := Lib.hid (HT.out.below hb HT.out.size)
          clear hb
          clear Hs Fs
          clear Hz
          go_wp2_with fail
          refine (list_any _ a _ Ha.out Fa.out.2 Fa.out.1 HT.out).mono ?_
          rintro e w14 ⟨vz, rfl, hz, hb⟩
          have Hz := Lib.hid hz
          clear hz
          replace HB := Lib.hid (HB.out.trans (hb.mono HB.out.size))
          replace Ha := Lib.hid (Ha.out.below hb)
          replace Hx := Lib.hid (Hx.out.below hb)
          replace HT := Lib.hid (HT.out.below hb HT.out.size)
          clear hb
          go_wp2_with fail
          refine (lsame_f Hz.out Hx.out rla.out rla.out true (decide_eq_true rfl)).mono ?_
          rintro e w15 ⟨rfl, hb⟩
          replace HB := Lib.hid (HB.out.trans (hb.mono HB.out.size))
          replace Ha := Lib.hid (Ha.out.below hb)
          replace Hx := Lib.hid (Hx.out.below hb)
          replace Hz := Lib.hid (Hz.out.below hb)
          replace HT := Lib.hid (HT.out.below hb HT.out.size)
          clear hb
          go_wp2_with fail
          refine (len_f Ha.out Fa.out _ HS.out).mono ?_
          rintro e w16 ⟨rfl, rfl⟩
          go_wp2
          go_ret
          exact ⟨rfl, HB.out⟩
        · obtain ⟨x0, hx0⟩ : ∃ x, (els a)[0]'(by have := HN.out; omega) = x := ⟨_, rfl⟩
          have P0 : Hid (0 < (els a).length) := by have := HN.out; unfold Hid; omega
          have X0 : Hid ((els a)[0]'P0.out = x0) := hx0
          have E1 : Hid ((Value.tuple #[.int .i64 (((els a)[0]?.getD 0 : Nat) : Int), .bool (decide (0 < (els a).length))]) = .tuple #[.int .i64 (x0 : Int), .bool true]) := by
            show _ = _
            rw [decide_eq_true P0.out, List.getElem?_eq_getElem P0.out, Option.getD_some, hx0]
          have hlt0 : 0 < N := by omega
          clear hx0 h0 hN
          go_enter Tryd.func4, Tryd.ntmps4
          go_wp2_with fail
          refine (awake_any _ HT.out).mono ?_
          rintro e w1 ⟨rfl, hb⟩
          replace HB := Lib.hid (HB.out.trans (hb.mono HB.out.size))
          replace Ha := Lib.hid (Ha.out.below hb)
          replace HT := Lib.hid (HT.out.below hb HT.out.size)
          clear hb
          go_wp2_with fail
          refine (few_any _ _ _ _ _ _ _).mono ?_
          rintro e w2 ⟨rfl, rfl⟩
          rw [dcc]
          go_wp2_with fail
          refine (rlist_any _ a _ Ha.out Fa.out.2 Fa.out.1).mono ?_
          rintro e w3 ⟨vx, rfl, hx, hb⟩
          have Hx := Lib.hid hx
          obtain ⟨Ax, cx, rfl⟩ := hx.shape
          rw [HN.out] at Hx ⊢
          clear hx
          replace HB := Lib.hid (HB.out.trans (hb.mono HB.out.size))
          replace Ha := Lib.hid (Ha.out.below hb)
          replace HT := Lib.hid (HT.out.below hb HT.out.size)
          clear hb
          go_wp2_with fail
          refine (least_any _ a _ Ha.out Fa.out.2 Fa.out.1 HT.out).mono ?_
          rintro e w4 ⟨rfl, hb⟩
          replace HB := Lib.hid (HB.out.trans (hb.mono HB.out.size))
          replace Ha := Lib.hid (Ha.out.below hb)
          replace Hx := Lib.hid (Hx.out.below hb)
          replace HT := Lib.hid (HT.out.below hb HT.out.size)
          clear hb
          rw [E1.out]
          obtain ⟨ad0, c0, hs0, hcp0, hcell0⟩ := sl_cell Hx.out 0 P0.out
          simp only [Value.slice.injEq] at hs0
          obtain ⟨rfl, hs1, rfl⟩ := hs0
          rw [addr_zero, X0.out] at hcell0
          rw [HN.out] at hcp0
          unfold nv at hcell0
          clear hs1
          go_wp2_with fail
          refine (valid_any _ a _ Ha.out Fa.out.2).mono ?_
          rintro e w5 ⟨rfl, rfl⟩
          clear hcell0
          go_wp2_with fail
          refine (rvalid_any _ a _ Ha.out Fa.out.2).mono ?_
          rintro e w6 ⟨rfl, rfl⟩
          generalize decide (ulen a = a.length) = vd
          go_wp2_with fail
          refine (has_any _ a _ _ Ha.out Fa.out.2 Fa.out.1).mono ?_
          rintro e w7 ⟨rfl, rfl⟩
          rw [HR2.out]
          go_wp2_with fail
          refine (rhas_any _ (els a) _ _ Hx.out la.out).mono ?_
          rintro e w8 ⟨rfl, rfl⟩
          rw [HR.out]
          go_wp2_with fail
          refine (with_f n Ha.out Fa.out).mono ?_
          rintro e w9 ⟨vs, rfl, hs, hb⟩
          have Hs := Lib.hid hs
          clear hs
          replace HB := Lib.hid (HB.out.trans (hb.mono HB.out.size))
          replace Ha := Lib.hid (Ha.out.below hb)
          replace Hx := Lib.hid (Hx.out.below hb)
          replace HT := Lib.hid (HT.out.below hb HT.out.size)
          clear hb
          have Fs : Hid (Fine (withM a n)) := FW
          go_wp2_with fail
          refine (lawsame_f Hs.out Hx.out la.out (fun m h => els_lt h) (setop_canon _ _ _) Fs.out.1 (fun m hm => e_with2 a HNR.out m)).mono ?_
          rintro e w10 ⟨rfl, hb⟩
          replace HB := Lib.hid (HB.out.trans (hb.mono HB.out.size))
          replace Ha := Lib.hid (Ha.out.below hb)
          replace Hx := Lib.hid (Hx.out.below hb)
          replace Hs := Lib.hid (Hs.out.below hb)
          replace HT := Lib.hid (HT.out.below hb HT.out.size)
          clear hb
          clear Hs Fs
          go_wp2_with fail
          refine (without_f n Ha.out Fa.out).mono ?_
          rintro e w11 ⟨vs, rfl, hs, hb⟩
          have Hs := Lib.hid hs
          clear hs
          replace HB := Lib.hid (HB.out.trans (hb.mono HB.out.size))
          replace Ha := Lib.hid (Ha.out.below hb)
          replace Hx := Lib.hid (Hx.out.below hb)
          replace HT := Lib.hid (HT.out.below hb HT.out.size)
          clear hb
          have Fs : Hid (Fine (withoutM a n)) := FO
          go_wp2_with fail
          refine (rwithout_any _ (els a) n _ Hx.out la.out).mono ?_
          rintro e w12 ⟨vz, rfl, hz, hb⟩
          have Hz := Lib.hid hz
          clear hz
          replace HB := Lib.hid (HB.out.trans (hb.mono HB.out.size))
          replace Ha := Lib.hid (Ha.out.below hb)
          replace Hx := Lib.hid (Hx.out.below hb)
          replace Hs := Lib.hid (Hs.out.below hb)
          replace HT := Lib.hid (HT.out.below hb HT.out.size)
          clear hb
          go_wp2_with fail
          refine (lawsame_f Hs.out Hz.out (Nat.le_trans (List.length_filter_le _ _) la.out) (fun m h => els_lt (List.mem_filter.1 h).1) (setop_canon _ _ _) Fs.out.1 (fun m hm => e_without a n m)).mono ?_
          rintro e w13 ⟨rfl, hb⟩
          replace HB := Lib.hid (HB.out.trans (hb.mono HB.out.size))
          replace Ha := Lib.hid (Ha.out.below hb)
          replace Hx := Lib.hid (Hx.out.below hb)
          replace Hs := Lib.hid (Hs.out.below hb)
          replace Hz := Lib.hid (Hz.out.below hb)
          replace HT := Lib.hid (HT.out.below hb HT.out.size)
          clear hb
          clear Hs Fs
          clear Hz
          go_wp2_with fail
          refine (list_any _ a _ Ha.out Fa.out.2 Fa.out.1 HT.out).mono ?_
          rintro e w14 ⟨vz, rfl, hz, hb⟩
          have Hz := Lib.hid hz
          clear hz
          replace HB := Lib.hid (HB.out.trans (hb.mono HB.out.size))
          replace Ha := Lib.hid (Ha.out.below hb)
          replace Hx := Lib.hid (Hx.out.below hb)
          replace HT := Lib.hid (HT.out.below hb HT.out.size)
          clear hb
          go_wp2_with fail
          refine (lsame_f Hz.out Hx.out rla.out rla.out true (decide_eq_true rfl)).mono ?_
          rintro e w15 ⟨rfl, hb⟩
          replace HB := Lib.hid (HB.out.trans (hb.mono HB.out.size))
          replace Ha := Lib.hid (Ha.out.below hb)
          replace Hx := Lib.hid (Hx.out.below hb)
          replace Hz := Lib.hid (Hz.out.below hb)
          replace HT := Lib.hid (HT.out.below hb HT.out.size)
          clear hb
          go_wp2_with fail
          refine (len_f Ha.out Fa.out _ HS.out).mono ?_
          rintro e w16 ⟨rfl, rfl⟩
          go_wp2
          go_ret
          exact ⟨rfl, HB.out⟩
  · have dcc : decide (a.length ≤ 70 ∧ 0 ≤ 70) = false := decide_eq_false fun h => hcc h.1
    clear hcc
    go_enter Tryd.func4, Tryd.ntmps4
    go_wp2_with fail
    refine (awake_any _ HT.out).mono ?_
    rintro e w1 ⟨rfl, hb⟩
    replace HB := Lib.hid (HB.out.trans (hb.mono HB.out.size))
    replace Ha := Lib.hid (Ha.out.below hb)
    replace HT := Lib.hid (HT.out.below hb HT.out.size)
    clear hb
    go_wp2_with fail
    refine (few_any _ _ _ _ _ _ _).mono ?_
    rintro e w2 ⟨rfl, rfl⟩
    rw [dcc]
    go_wp2
    go_ret
    exact ⟨rfl, HB.out⟩
end Go.Proofs.YtaedijblgogmmaaDoor
