/- Layer 10: the walk of SyntaxBlanks. -/
import Derived.Test.YtekpefcggikcbaaGreatDoorSyBk
import Derived.Test.YtekpefcggikcbaaGreatDoorSyWt
import Derived.Test.YtekpefcggikcbaaGreatDoorMEqQ
namespace Go.Proofs.YtekpefcggikcbaaGreatDoor
open Go.RowKit

def gapsB (gs : List Nat) (i : Nat) : Bs := if gs = [] then [32] else gapB (gs.getD (i % gs.length) 0 % 5)
theorem gapsB_ok (gs : List Nat) (i : Nat) : gapOK (gapsB gs i) := by
  unfold gapsB
  split
  · exact gapB_ok 0
  · exact gapB_ok _
theorem gapsB_len (gs : List Nat) (i : Nat) : (gapsB gs i).length ≤ 13 := by
  unfold gapsB
  split
  · simp
  · exact gapB_len _
theorem tk_v {l : List UInt8} {k v m : Nat} {t : List UInt8} (h : tk l = .ok k t v m) : v ≤ 999999 := (tk_small h).2
/-- The literal of five gaps. -/
def AllG (w : World) (g : Nat) : Prop := ∀ i : Nat, i < 5 → w.cell? ⟨g, i, none⟩ = some (.string (ofL (gapB i)))
theorem AllG.below {w w' : World} {g : Nat} (h : AllG w g) (hb : Below w.heap.size w w') : AllG w' g := fun i hi => by
  have h1 := h i hi
  rw [hb.cell (World.block_lt_of_cell? _ _ h1), h1]
def BwRel (B : Nat) (w : World) (ts : List Tok) (gs : List Nat) (va vg : Value) (g : Nat) (vp : Value) (S : Nat → Prop) (ps : List Pr) (gk : Nat) (v12 : Value) (v54 : Value) (wr : World) : Prop :=
  ∃ (k : Nat) (u : ByteArray), k ≤ ts.length ∧ ts.length ≤ gk + k ∧ v54 = .int .i64 (k : Int) ∧ v12 = .string u ∧ Hid (u = ofL (wgs (gapsB gs) 0 (ts.take k))) ∧ Hid (Toks wr va ts) ∧ Hid (Bsl wr vg gs) ∧ Hid (AllG wr g) ∧ Hid (Lies wr S vp (.s 4 (ps.flatMap dP))) ∧ Hid (Below B w wr)
section
variable {w w' : World}
set_option maxRecDepth 20000 in
set_option maxHeartbeats 8000000 in
theorem syntaxblanks_walk (ht : Tb w) (hg : gT < w.heap.size) (ls : Bs) (A : Option Addr) (c : Nat) (gs : List Nat) (hgs : Bsl w (.slice A gs.length c) gs) (hby : Byt gs) (hgl : gs.length ≤ 140737488351232) :
    Calls Tryz.prog 6 #[.string (ofL ls), .slice A gs.length c] w fun e w' => e = .returned (.bool true) ∧ Below w.heap.size w w' := by
  have HT := Lib.hid ht
  have HG := Lib.hid hg
  have HGS := Lib.hid hgs
  have HBY := Lib.hid hby
  obtain ⟨s, hs⟩ : ∃ s, s = ofL ls := ⟨_, rfl⟩
  have hsz : s.size = ls.length := by rw [hs, ofL_size]
  rw [← hs]
  have HS := Lib.hid hs
  have HSZ := Lib.hid hsz
  clear ht hg hs hgs hby
  by_cases h8 : ls.length ≤ 1500
  rotate_left
  · have hc : (1500 : Int) < (s.size : Int) := by omega
    clear hsz h8
    go_enter Tryz.func6, Tryz.ntmps6
    go_wp2_with fail
    refine (awake_any HT.out HG.out).mono ?_; rintro e w3 ⟨rfl, hb3⟩
    have B3 := Lib.hid hb3
    clear hb3
    go_wp2_with fail
    refine (awake_any (HT.out.below B3.out) (Nat.lt_of_lt_of_le HG.out B3.out.size)).mono ?_; rintro e w4 ⟨rfl, hb4⟩
    have B4 := Lib.hid (B3.out.trans (hb4.mono B3.out.size))
    clear hb4
    go_wp2_with fail
    go_ret
    exact ⟨rfl, B4.out⟩
  have hc1 : ¬ (1500 : Int) < (s.size : Int) := by omega
  by_cases h9 : gs.length ≤ 40
  rotate_left
  · have hc : (40 : Int) < (gs.length : Int) := by omega
    clear hsz h8 h9
    go_enter Tryz.func6, Tryz.ntmps6
    go_wp2_with fail
    refine (awake_any HT.out HG.out).mono ?_; rintro e w3 ⟨rfl, hb3⟩
    have B3 := Lib.hid hb3
    clear hb3
    go_wp2_with fail
    refine (awake_any (HT.out.below B3.out) (Nat.lt_of_lt_of_le HG.out B3.out.size)).mono ?_; rintro e w4 ⟨rfl, hb4⟩
    have B4 := Lib.hid (B3.out.trans (hb4.mono B3.out.size))
    clear hb4
    go_wp2_with fail
    go_ret
    exact ⟨rfl, B4.out⟩
  have hc2 : ¬ (40 : Int) < (gs.length : Int) := by omega
  have H8 := Lib.hid h8
  have hs15 : s.size ≤ 1500 := by omega
  clear hsz h8
  obtain ⟨ts, a0, x0, hf⟩ : ∃ ts a x, full ls = (ts, a, x) := ⟨_, _, _, rfl⟩
  obtain ⟨ps, at_, f, hp⟩ : ∃ ps a x, parseB ls = (ps, a, x) := ⟨_, _, _, rfl⟩
  have HF := Lib.hid hf
  have HP := Lib.hid hp
  clear hf hp
  go_enter Tryz.func6, Tryz.ntmps6
  go_wp2_with fail
  refine (awake_any HT.out HG.out).mono ?_; rintro e w3 ⟨rfl, hb3⟩
  have B3 := Lib.hid hb3
  clear hb3
  go_wp2_with fail
  refine (toks_at s ls HS.out ts a0 x0 HF.out w3).mono ?_; rintro e w4 ⟨v, rfl, ht4, hb4, -⟩
  obtain ⟨A4, c4, rfl⟩ := ht4.shape
  have B4 := Lib.hid (B3.out.trans (hb4.mono B3.out.size))
  have K4 := Lib.hid ht4
  clear hb4 ht4
  go_wp2_with fail
  have hpc := parse_any (HT.out.below B4.out) (Nat.lt_of_lt_of_le HG.out B4.out.size) ls
  rw [HP.out, ← HS.out] at hpc
  refine hpc.mono ?_; rintro e w5 ⟨v5, rfl, L5, hb5⟩
  obtain ⟨A5, n5, c5, rfl, -⟩ := L5.slc
  have B5 := Lib.hid (B4.out.trans (hb5.mono B4.out.size))
  have K5 := Lib.hid (K4.out.below hb5)
  have M5 := Lib.hid L5
  clear hb5 L5 hpc
  by_cases hf0 : f = 0
  rotate_left
  · have e2 : ((f : Int) != 0) = true := by simp; omega
    by_cases hx0 : x0 = 0
    · have e1 : ((x0 : Int) != 0) = false := by subst hx0; rfl
      clear hf0 hx0
      go_wp2_with fail
      go_ret
      exact ⟨rfl, B5.out⟩
    · have e1 : ((x0 : Int) != 0) = true := by simp; omega
      clear hf0 hx0
      go_wp2_with fail
      go_ret
      exact ⟨rfl, B5.out⟩
  subst hf0
  have hx0 : x0 = 0 := by have := (parse_ok HP.out).1; rw [HF.out] at this; exact this
  subst hx0
  have HFZ := Lib.hid (show full ls = (ts, 0, 0) by
    have h1 := HF.out
    have h2 := H8.out
    rw [h1]
    rw [full_small (by omega)] at h1
    have h3 := (lxs_bad 0 ls).2 (by rw [h1])
    rw [h1] at h3
    simp only at h3
    rw [h3])
  have hlx : lxs 0 ls = (ts, 0, 0) := by have := H8.out; rw [← full_small (by omega)]; exact HFZ.out
  have hlen : ts.length ≤ 1500 := by
    have h3 := lxs_len 0 ls
    rw [hlx] at h3
    exact Nat.le_trans h3 H8.out
  have HSM := Lib.hid (show ∀ t ∈ ts, t.t.length ≤ 40 ∧ t.v ≤ 999999 by have := lxs_toks 0 ls; rwa [hlx] at this)
  have HWL := Lib.hid (show (wgs (gapsB gs) 0 ts).length ≤ 14 * 1500 by
    have h3 := wgs_len (gapsB_len gs) 0 ls 0
    rw [hlx] at h3
    simp only at h3
    have := H8.out
    omega)
  have HSP := Lib.hid (vB_gq (parse_ok HP.out).2.2.2)
  clear hlx
  go_wp2_with fail
  obtain ⟨W5, hW5⟩ : ∃ W, w5.alloc (.cells #[.string ⟨#[32]⟩, .string ⟨#[10]⟩, .string ⟨#[9]⟩, .string ⟨#[32, 47, 47, 32, 97, 32, 45, 62, 32, 125, 32, 40, 10]⟩, .string ⟨#[13, 10]⟩] 9) = W := ⟨_, rfl⟩
  have A5' := Lib.hid (show AllG W5 w5.heap.size by
    intro i hi
    rw [← hW5, cell_of_row _ w5.heap.size i _ _ _ (heap_alloc_new w5 _)]
    match i, hi with
    | 0, _ => rfl
    | 1, _ => rfl
    | 2, _ => rfl
    | 3, _ => rfl
    | 4, _ => rfl)
  have B6 := Lib.hid (show Below w.heap.size w W5 by rw [← hW5]; exact B5.out.alloc B5.out.size _)
  have hb56 : Below w5.heap.size w5 W5 := by rw [← hW5]; exact (Below.refl _ _).alloc (Nat.le_refl _) _
  have K6 := Lib.hid (K5.out.below hb56)
  have G6 := Lib.hid (HGS.out.below B6.out)
  have M6 := Lib.hid (M5.out.belowT hb56)
  have HW5 := Lib.hid hW5
  clear hW5 hb56
  rw [HW5.out]
  go_loopg [12, 13, 14, 54] ts.length (fun gk v12 _ _ v54 wr => BwRel w.heap.size w ts gs (.slice A4 ts.length c4) (.slice A gs.length c) w5.heap.size (.slice A5 n5 c5) (fun k => w4.heap.size ≤ k) ps gk v12 v54 wr)
  case atStart => exact ⟨0, _, by omega, by omega, rfl, rfl, rfl, K6, G6, A5', M6, B6⟩
  case round =>
    obtain ⟨k, u, hk, hkg, rfl, rfl, HU, HTK, HGK, HAG, HLP, HB⟩ := hrel
    have hul : u.size ≤ 21000 := by rw [HU.out, ofL_size]; have := wgs_take (g := gapsB gs) ts k; have := HWL.out; omega
    have hsz := HB.out.size
    by_cases hlt : k < ts.length
    · obtain ⟨ad, c', hs', hcap, d0, d1, d2, d3⟩ := toks_cell HTK.out k hlt
      simp only [Value.slice.injEq, true_and] at hs'
      obtain ⟨rfl, rfl⟩ := hs'
      have hsm := HSM.out ts[k] (List.getElem_mem hlt)
      obtain ⟨t, ht⟩ : ∃ t, t = ts[k] := ⟨_, rfl⟩
      have hwl : wgs (gapsB gs) 0 (ts.take (k + 1)) = wgs (gapsB gs) 0 (ts.take k) ++ (gapsB gs k ++ wrt t) := by
        rw [List.take_succ_eq_append_getElem hlt, wgs_snoc, List.length_take, ht, Nat.zero_add, Nat.min_eq_left (Nat.le_of_lt hlt)]
      rw [← ht] at d0 d1 d2 d3 hsm
      obtain ⟨q, hq⟩ : ∃ q, q = ofL (wrt t) := ⟨_, rfl⟩
      obtain ⟨gp, hgp⟩ : ∃ q, q = ofL (gapsB gs k) := ⟨_, rfl⟩
      have hln := wgs_take (g := gapsB gs) ts (k + 1)
      have hqs : q.size ≤ 21000 := by
        rw [hq, ofL_size]
        have := HWL.out
        rw [hwl, List.length_append, List.length_append] at hln
        omega
      have hgs : gp.size ≤ 13 := by rw [hgp, ofL_size]; exact gapsB_len gs k
      have hstep : Hid (u ++ (gp ++ q) = ofL (wgs (gapsB gs) 0 (ts.take (k + 1)))) := by
        unfold Hid
        rw [hwl, HU.out, hq, hgp, ofL_append, ofL_append]
      have HQ := Lib.hid hq
      have HWT := Lib.hid (swrite_any t (by omega) (by omega))
      clear ht hwl hq hln hsm
      unfold tokC at HWT
      by_cases hg0 : gs = []
      · have hgp2 : gp = ⟨#[32]⟩ := by rw [hgp]; unfold gapsB; rw [if_pos hg0]; rfl
        have hgz : ¬ (0 : Int) < (gs.length : Int) := by subst hg0; simp
        subst hgp2
        clear hg0 hgp hgs
        go_wp2_with fail
        refine (HWT.out _).mono ?_
        rintro e w6 ⟨rfl, hb6⟩
        rw [← HQ.out]
        have HT6 := Lib.hid (HTK.out.below hb6)
        have HG6 := Lib.hid (HGK.out.below hb6)
        have HA6 := Lib.hid (HAG.out.below hb6)
        have HL6 := Lib.hid (HLP.out.belowT hb6)
        have HB6 := Lib.hid (HB.out.trans (hb6.mono hsz))
        clear hb6
        go_wp2_with fail
        go_roundg (gk - 1)
        case rel => exact ⟨k + 1, _, by omega, by omega, by go_num, rfl, hstep, HT6, HG6, HA6, HL6, HB6⟩
        case measure => omega
      · have hpos : 0 < gs.length := List.length_pos_iff.2 hg0
        have hgz : (0 : Int) < (gs.length : Int) := by omega
        obtain ⟨j, hj⟩ : ∃ j, j = k % gs.length := ⟨_, rfl⟩
        have hjl : j < gs.length := by rw [hj]; exact Nat.mod_lt _ hpos
        have ej : (k : Int) % (gs.length : Int) = (j : Int) := by rw [hj]; omega
        obtain ⟨ag, rfl, hgc⟩ := HGK.out.addr (by omega)
        obtain ⟨b, hbb⟩ : ∃ b, gs[j]? = some b := ⟨_, List.getElem?_eq_getElem hjl⟩
        have hgcell := hgc j b hbb
        have hb256 := HBY.out b (List.mem_of_getElem? hbb)
        obtain ⟨r, hr⟩ : ∃ r, r = b % 5 := ⟨_, rfl⟩
        have hr5 : r < 5 := by omega
        have er : (b : Int) % 5 = (r : Int) := by omega
        have hgp2 : gp = ofL (gapB r) := by
          rw [hgp]; unfold gapsB; rw [if_neg hg0, List.getD_eq_getElem?_getD, ← hj, hbb, hr]; rfl
        have hrc := HAG.out r hr5
        rw [← hgp2] at hrc
        unfold bv at hgcell
        clear hg0 hgp hgp2 hj hbb hr hgc
        go_wp2_with fail
        refine (HWT.out _).mono ?_
        rintro e w6 ⟨rfl, hb6⟩
        rw [← HQ.out]
        have HT6 := Lib.hid (HTK.out.below hb6)
        have HG6 := Lib.hid (HGK.out.below hb6)
        have HA6 := Lib.hid (HAG.out.below hb6)
        have HL6 := Lib.hid (HLP.out.belowT hb6)
        have HB6 := Lib.hid (HB.out.trans (hb6.mono hsz))
        clear hb6
        go_wp2_with fail
        go_roundg (gk - 1)
        case rel => exact ⟨k + 1, _, by omega, by omega, by go_num, rfl, hstep, HT6, HG6, HA6, HL6, HB6⟩
        case measure => omega
    · have hu2 : Hid (u ++ (⟨#[10]⟩ : ByteArray) = ofL (wgs (gapsB gs) 0 ts ++ [10])) := by
        unfold Hid
        rw [HU.out, List.take_of_length_le (by omega)]
        show ofL _ ++ ofL [10] = _
        rw [ofL_append]
      have huz : u.size = (wgs (gapsB gs) 0 ts).length := by rw [HU.out, List.take_of_length_le (by omega), ofL_size]
      obtain ⟨T, hT⟩ : ∃ T, u ++ (⟨#[10]⟩ : ByteArray) = T := ⟨_, rfl⟩
      rw [hT] at hu2
      have HTT := Lib.hid hT
      obtain ⟨qs, y, g2, hpq⟩ : ∃ ps a x, parseB (wgs (gapsB gs) 0 ts ++ [10]) = (ps, a, x) := ⟨_, _, _, rfl⟩
      have HPQ := Lib.hid hpq
      have hpc := parse_any (HT.out.below HB.out) (Nat.lt_of_lt_of_le HG.out HB.out.size) (wgs (gapsB gs) 0 ts ++ [10])
      rw [hpq, ← hu2.out] at hpc
      have HPC := Lib.hid hpc
      clear hT hpq hpc
      by_cases h8k : u.size < 8000
      · have hlaw := blanks_law (gapsB_ok gs) H8.out HFZ.out HP.out (by rw [← huz]; exact h8k)
        rw [HPQ.out] at hlaw
        simp only [Prod.mk.injEq] at hlaw
        obtain ⟨rfl, rfl, rfl⟩ := hlaw
        have hn8 : ¬ (8000 : Int) ≤ (u.size : Int) := by omega
        clear huz h8k
        go_wp2_with fail
        rw [HTT.out]
        refine HPC.out.mono ?_
        rintro e w6 ⟨v6, rfl, L6, hb6⟩
        obtain ⟨A6, n6, c6, rfl, -⟩ := L6.slc
        have HB6 := Lib.hid (HB.out.trans (hb6.mono hsz))
        have HL6 := Lib.hid (HLP.out.belowT hb6)
        have HM6 := Lib.hid L6
        clear hb6 L6
        go_wp2_with fail
        refine (equal_any qs qs _ _ (HL6.out.mono (T := fun _ => True) fun _ _ _ => trivial) (HM6.out.mono fun _ _ _ => trivial) HSP.out.1 HSP.out.1 (by have := HSP.out.2; omega)).mono ?_
        rintro e w7 ⟨rfl, hb7⟩
        rw [eqL_prw.2 rfl]
        have HB7 := Lib.hid (HB6.out.trans (hb7.mono HB6.out.size))
        clear hb7
        go_wp2_with fail
        go_ret
        exact ⟨rfl, HB7.out⟩
      · have hn8 : (8000 : Int) ≤ (u.size : Int) := by omega
        clear huz h8k
        go_wp2_with fail
        rw [HTT.out]
        refine HPC.out.mono ?_
        rintro e w6 ⟨v6, rfl, L6, hb6⟩
        obtain ⟨A6, n6, c6, rfl, -⟩ := L6.slc
        have HB6 := Lib.hid (HB.out.trans (hb6.mono hsz))
        clear hb6 L6
        go_wp2_with fail
        go_ret
        exact ⟨rfl, HB6.out⟩
end
end Go.Proofs.YtekpefcggikcbaaGreatDoor
