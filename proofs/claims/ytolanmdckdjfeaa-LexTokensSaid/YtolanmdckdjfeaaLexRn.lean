/- Layer 9: the contracts of the reference's sorts of bytes, in, IsName, IsWord. -/
import Derived.Test.YtolanmdckdjfeaaLexKwC
namespace Go.Proofs.Ytolanmdckdjfeaa
open Go.RowKit

theorem rletter_any (n : Nat) (w : World) : Calls Try.prog 32 #[.int .u8 (n : Int)] w (BoolIs (cL n) w) := by
  go_enter Try.func32, Try.ntmps32
  go_wp2
  all_goals
    go_ret
    refine BoolIs.mk ?_
    rw [Bool.eq_iff_iff]
    simp [cL]
    omega
theorem rdigit_any (n : Nat) (w : World) : Calls Try.prog 52 #[.int .u8 (n : Int)] w (BoolIs (cD n) w) := by
  go_enter Try.func52, Try.ntmps52
  go_wp2
  all_goals
    go_ret
    refine BoolIs.mk ?_
    rw [Bool.eq_iff_iff]
    simp [cD]
    omega
theorem rinner_any (n : Nat) (w : World) : Calls Try.prog 33 #[.int .u8 (n : Int)] w (BoolIs (cN n) w) := by
  cases h1 : cL n with
  | true =>
    have H : Hid (cN n = true) := by simp [Hid, cN, h1]
    go_enter Try.func33, Try.ntmps33
    go_wp2_with (refine (rletter_any _ _).mono ?_; rintro e w' ⟨rfl, rfl⟩)
    all_goals
      go_ret
      exact BoolIs.mk H.out.symm
  | false =>
    cases h2 : cD n with
    | true =>
      have H : Hid (cN n = true) := by simp [Hid, cN, h1, h2]
      go_enter Try.func33, Try.ntmps33
      go_wp2_with (first | (go_at_call 32; refine (rletter_any _ _).mono ?_; rintro e w' ⟨rfl, rfl⟩) | (go_at_call 52; refine (rdigit_any _ _).mono ?_; rintro e w' ⟨rfl, rfl⟩))
      all_goals
        go_ret
        exact BoolIs.mk H.out.symm
    | false =>
      have H : Hid (cN n = decide (n = 95)) := by simp [Hid, cN, h1, h2]
      go_enter Try.func33, Try.ntmps33
      go_wp2_with (first | (go_at_call 32; refine (rletter_any _ _).mono ?_; rintro e w' ⟨rfl, rfl⟩) | (go_at_call 52; refine (rdigit_any _ _).mono ?_; rintro e w' ⟨rfl, rfl⟩))
      all_goals
        go_ret
        refine BoolIs.mk ?_
        rw [H.out, Bool.eq_iff_iff]
        simp
        omega
def InRel (L : List (List UInt8)) (x : List UInt8) (v : Value) : Prop := ∃ k : Nat, k ≤ L.length ∧ v = .int .i64 (k : Int) ∧ x ∉ L.take k
theorem in_any (g : Nat) (L : List (List UInt8)) (x : List UInt8) (w : World) (hc : ∀ (j : Nat) (u : List UInt8), L[j]? = some u → w.cell? ⟨g, j, none⟩ = some (.string (ofL u))) (hl : L.length ≤ 1000) :
    Calls Try.prog 35 #[.slice (some ⟨g, 0, none⟩) L.length L.length, .string (ofL x)] w (BoolIs (decide (x ∈ L)) w) := by
  have HC := Lib.hid hc
  clear hc
  obtain ⟨s, hs⟩ : ∃ s, s = ofL x := ⟨_, rfl⟩
  have HS := Lib.hid hs
  rw [← hs]
  clear hs
  go_enter Try.func35, Try.ntmps35
  go_wp2
  go_loop [5] (InRel L x) (fun i => L.length - (intOf i).toNat)
  case atStart => exact ⟨0, by omega, rfl, by simp⟩
  case round =>
    obtain ⟨k, hk, rfl, hn⟩ := hrel
    have HN := Lib.hid hn
    clear hn
    by_cases hlt : k < L.length
    · obtain ⟨u, hu⟩ : ∃ u, L[k]? = some u := ⟨L[k], List.getElem?_eq_getElem hlt⟩
      have hcell := HC.out k u hu
      obtain ⟨t, ht⟩ : ∃ t, t = ofL u := ⟨_, rfl⟩
      rw [← ht] at hcell
      have htl : t.toList = u := by rw [ht, ofL_toList]
      have hsl : s.toList = x := by rw [HS.out, ofL_toList]
      have HU := Lib.hid hu
      clear hu ht
      by_cases he : u = x
      · have heq : t.toList = s.toList := by rw [htl, hsl, he]
        have hb : Hid (decide (x ∈ L) = true) := by
          unfold Hid
          rw [decide_eq_true_iff, ← he]
          exact List.mem_of_getElem? HU.out
        clear htl hsl he
        have heq2 : (t.toList == s.toList) = true := by simpa using heq
        clear heq
        go_wp2
        go_ret
        exact BoolIs.mk hb.out.symm
      · have hne : (t.toList == s.toList) = false := by rw [htl, hsl]; simpa using he
        have HNE := Lib.hid he
        clear htl hsl he
        go_wp2
        go_round
        case rel =>
          refine ⟨k + 1, by omega, by go_num, ?_⟩
          rw [List.take_add_one, HU.out]
          intro h
          rcases List.mem_append.1 h with h | h
          · exact HN.out h
          · simp at h; exact HNE.out h.symm
        case measure => simp [intOf]; omega
    · have hb : Hid (decide (x ∈ L) = false) := by
        have := HN.out
        rw [List.take_of_length_le (by omega)] at this
        unfold Hid
        simpa using this
      go_wp2
      go_ret
      exact BoolIs.mk hb.out.symm
def RnRel (l : List UInt8) (v : Value) : Prop := ∃ k : Nat, k ≤ l.length ∧ v = .int .i64 (k : Int) ∧ ∀ (j : Nat) (c : UInt8), j < k → l[j]? = some c → cN c.toNat = true
set_option maxHeartbeats 1000000 in
theorem risName_any (l : List UInt8) (w : World) (hl : l.length ≤ 1000) : Calls Try.prog 16 #[.string (ofL l)] w (BoolIs (nmB l) w) := by
  obtain ⟨s, hs⟩ : ∃ s, s = ofL l := ⟨_, rfl⟩
  have hsz : s.size = l.length := by rw [hs, ofL_size]
  have hsl : s.toList = l := by rw [hs, ofL_toList]
  rw [← hs]
  have HS := Lib.hid hs
  have HZ := Lib.hid hsz
  by_cases h0 : 1 ≤ l.length
  · have hne : s.toList ≠ [] := by rw [hsl]; intro e; rw [e] at h0; simp at h0
    have hne2 : (s.toList == []) = false := by simpa using hne
    have h1 : 0 < s.size := by omega
    have hg : s[0].toNat = nxt l := by
      subst hs
      rw [ofL_get l 0 h1, ← nxt_at (k := 0) (by omega), List.drop_zero]
    have HG := Lib.hid hg
    cases hc : cL (nxt l) with
    | true =>
      have HC := Lib.hid hc
      by_cases h16 : l.length ≤ 16
      · have h2 : s.size ≤ 16 := by omega
        have HB : Hid (nmB l = decide (spn cN l = l.length)) := by unfold Hid nmB; rw [hc]; simp [h0, h16]
        clear hs hsz hsl h0 hg hc
        go_enter Try.func16, Try.ntmps16
        go_wp2_with fail
        refine (rletter_any _ _).mono ?_; rintro e w1 ⟨rfl, rfl⟩; rw [HG.out, HC.out]
        go_wp2
        go_loop [3] (RnRel l) (fun i => l.length - (intOf i).toNat)
        case atStart => exact ⟨0, by omega, rfl, by omega⟩
        case round =>
          obtain ⟨k, hk, rfl, hn⟩ := hrel
          have HN := Lib.hid hn
          clear hn
          by_cases hlt : k < s.size
          · obtain ⟨c, hcc⟩ : ∃ c, l[k]? = some c := ⟨l[k]'(by have := HZ.out; omega), List.getElem?_eq_getElem _⟩
            have hg : (s[k]'hlt).toNat = c.toNat := by
              have e : s[k]'hlt = c := by
                have := HS.out
                subst this
                rw [ofL_get]
                exact (List.getElem?_eq_some_iff.1 hcc).2
              rw [e]
            have HG2 := Lib.hid hg
            have HCC := Lib.hid hcc
            clear hg hcc
            cases hcn : cN c.toNat with
            | true =>
              have HCN := Lib.hid hcn
              clear hcn
              go_wp2_with fail
              refine (rinner_any _ _).mono ?_; rintro e w1 ⟨rfl, rfl⟩; rw [HG2.out, HCN.out]
              go_wp2
              go_round
              case rel =>
                refine ⟨k + 1, by have := HZ.out; omega, by go_num, fun j d hj hd => ?_⟩
                by_cases e : j = k
                · subst e; rw [HCC.out] at hd; cases hd; exact HCN.out
                · exact HN.out j d (by omega) hd
              case measure => have := HZ.out; simp [intOf]; omega
            | false =>
              have HCN := Lib.hid hcn
              clear hcn
              go_wp2_with fail
              refine (rinner_any _ _).mono ?_; rintro e w1 ⟨rfl, rfl⟩; rw [HG2.out, HCN.out]
              go_wp2
              go_ret
              refine BoolIs.mk ?_
              rw [HB.out]
              have := spn_eq (p := cN) (l := l) (k := k) hk HN.out (fun d hd => by rw [HCC.out] at hd; cases hd; exact HCN.out)
              rw [this]
              have := HZ.out
              symm; simp; omega
          · go_wp2
            go_ret
            refine BoolIs.mk ?_
            rw [HB.out]
            have := HZ.out
            have := spn_eq (p := cN) (l := l) (k := k) hk HN.out (fun d hd => by rw [List.getElem?_eq_none (by omega)] at hd; cases hd)
            rw [this]
            symm; simp; omega
      · have h2 : ¬ s.size ≤ 16 := by omega
        have HB : Hid (nmB l = false) := by unfold Hid nmB; simp [h16]
        clear hs hsz hsl h0 hg hc h16
        go_enter Try.func16, Try.ntmps16
        go_wp2_with fail
        refine (rletter_any _ _).mono ?_; rintro e w1 ⟨rfl, rfl⟩; rw [HG.out, HC.out]
        go_wp2
        go_ret
        exact BoolIs.mk HB.out.symm
    | false =>
      have HC := Lib.hid hc
      have HB : Hid (nmB l = false) := by unfold Hid nmB; rw [hc]; simp
      clear hs hsz hsl h0 hg hc
      go_enter Try.func16, Try.ntmps16
      go_wp2_with fail
      refine (rletter_any _ _).mono ?_; rintro e w1 ⟨rfl, rfl⟩; rw [HG.out, HC.out]
      go_wp2
      go_ret
      exact BoolIs.mk HB.out.symm
  · have hne : s.toList = [] := by rw [hsl]; exact List.eq_nil_of_length_eq_zero (by omega)
    have hne2 : (s.toList == []) = true := by rw [hne]; rfl
    have HB : Hid (nmB l = false) := by unfold Hid nmB; simp [h0]
    clear hs hsz hsl h0
    go_enter Try.func16, Try.ntmps16
    go_wp2
    go_ret
    exact BoolIs.mk HB.out.symm
def BelowB (b : Bool) (w : World) (e : Ending) (w' : World) : Prop := e = .returned (.bool b) ∧ Below w.heap.size w w'
theorem risWord_any (l : List UInt8) (w : World) (hl : l.length ≤ 1000) : Calls Try.prog 18 #[.string (ofL l)] w (BelowB (wdB l) w) := by
  cases hn : nmB l with
  | true =>
    have HN := Lib.hid hn
    have hb := Lib.hid (show wdB l = !decide (l ∈ kws) by unfold wdB kwB; rw [hn]; rfl)
    have hin := Lib.hid (in_any w.heap.size kws l (w.alloc (.cells kwCells 9)) (fun j u hu => by
      rw [cell_of_row _ w.heap.size j _ _ _ (heap_alloc_new w _)]
      unfold kwCells
      rw [List.getElem?_toArray, List.getElem?_map, hu]
      rfl) (by decide))
    clear hn
    go_enter Try.func18, Try.ntmps18
    go_wp2_with fail
    refine (risName_any _ _ hl).mono ?_; rintro e w1 ⟨rfl, rfl⟩; rw [HN.out]
    go_wp2_with fail
    refine (keywords_any _).mono ?_; rintro e w1 ⟨rfl, rfl⟩
    go_wp2_with fail
    refine hin.out.mono ?_; rintro e w1 ⟨rfl, rfl⟩
    go_wp2
    go_ret
    refine ⟨?_, (Below.refl _ _).alloc (Nat.le_refl _) _⟩
    rw [hb.out]; rfl
  | false =>
    have HN := Lib.hid hn
    have hb := Lib.hid (show wdB l = false by unfold wdB; rw [hn]; rfl)
    clear hn
    go_enter Try.func18, Try.ntmps18
    go_wp2_with fail
    refine (risName_any _ _ hl).mono ?_; rintro e w1 ⟨rfl, rfl⟩; rw [HN.out]
    go_wp2
    go_ret
    exact ⟨by rw [hb.out]; rfl, Below.refl _ _⟩
end Go.Proofs.Ytolanmdckdjfeaa
