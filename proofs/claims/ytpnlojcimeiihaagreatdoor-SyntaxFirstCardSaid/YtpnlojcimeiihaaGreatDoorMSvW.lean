/- Layer 10: the contracts of Print and Parse. -/
import Derived.Test.YtpnlojcimeiihaaGreatDoorMSvV
import Derived.Test.YtpnlojcimeiihaaGreatDoorMLexPl
import Derived.Test.YtpnlojcimeiihaaGreatDoorMMapO
import Derived.Test.YtpnlojcimeiihaaGreatDoorMSynSo
import Derived.Test.YtpnlojcimeiihaaGreatDoorCards
import Derived.Test.YtpnlojcimeiihaaGreatDoorTie
import Derived.Lib.LaidTab
import Derived.LaidMore
import Derived.Lay
import Derived.Stop.Joined
import Derived.SevenTiedAt
import Derived.ProofKit
import Derived.OpenShut
namespace Go.Proofs.YtpnlojcimeiihaaGreatDoor
/- Layer 10: the contracts of Print and Parse. -/
open Go.RowKit

theorem tk_small {l : List UInt8} {k v m : Nat} {t : List UInt8} (h : tk l = .ok k t v m) : t.length ≤ 40 ∧ v ≤ 999999 := by
  unfold tk at h
  split at h
  · unfold tkName at h
    split at h
    · cases h
    · cases h; exact ⟨by simp; omega, by omega⟩
  split at h
  · unfold tkNum at h
    split at h
    · cases h
    split at h
    · cases h
    · rename_i hd
      cases h
      refine ⟨by simp, ?_⟩
      have h1 := numF_le (l.take (spn cD l)) 0 fun c hc => by
        obtain ⟨j, hj⟩ := List.getElem?_of_mem hc
        have hjl : j < spn cD l := by
          have := (List.getElem?_eq_some_iff.1 hj).1
          rw [List.length_take] at this; omega
        rw [List.getElem?_take, if_pos hjl] at hj
        exact spn_mem hjl hj
      have h2 : 10 ^ (l.take (spn cD l)).length ≤ 10 ^ 6 := Nat.pow_le_pow_right (by decide) (by simp; omega)
      have h3 : (10 : Nat) ^ 6 = 1000000 := by decide
      omega
  split at h
  · unfold tkText at h
    split at h
    · cases h
    · split at h
      · cases h
      · cases h; exact ⟨by omega, by omega⟩
  · unfold tkMark at h
    split at h
    · cases h; exact ⟨by simp; omega, by omega⟩
    split at h
    · cases h; exact ⟨by simp; omega, by omega⟩
    · cases h
theorem lxs_toks : ∀ o l, ∀ t ∈ (lxs o l).1, t.t.length ≤ 40 ∧ t.v ≤ 999999 := by
  refine lxs_ind (P := fun _ _ r => ∀ t ∈ r.1, t.t.length ≤ 40 ∧ t.v ≤ 999999) ?_ ?_ ?_
  · intro o l _ t ht; simp at ht
  · intro o l e _ _ t ht; simp at ht
  · intro o l k t v m _ ht ih u hu
    unfold push at hu
    split at hu
    · simp only [List.mem_cons] at hu
      rcases hu with rfl | hu
      · exact tk_small ht
      · exact ih u hu
    · exact ih u hu
theorem lxs_sm {l : List UInt8} (hl : l.length ≤ 8000) (h0 : (lxs 0 l).2.2 = 0) : SmT (lxs 0 l).1 := by
  refine ⟨Nat.le_trans (lxs_len 0 l) hl, fun t ht => ?_⟩
  obtain ⟨j, hj⟩ := List.getElem?_of_mem ht
  have := (lxs_places 0 l h0).1 j t hj
  have h2 := lxs_toks 0 l t ht
  exact ⟨h2.1, h2.2, by omega⟩
theorem toks_at (s : ByteArray) (l : List UInt8) (hs : s = ofL l) (ts : List Tok) (a x : Nat) (h : full l = (ts, a, x)) (w : World) : Calls Tryz.prog 27 #[.string s] w fun e w' => ∃ v, e = .returned (.tuple #[v, .int .i64 (a : Int), .int .i64 (x : Int)]) ∧ Toks w' v ts ∧ Below w.heap.size w w' ∧ ∀ b, v.ownBlock = some b → b < w'.heap.size := by
  subst hs
  refine (tokens_own l w).mono fun e w' hp => ?_
  obtain ⟨v, h1, h2, h3⟩ := hp
  rw [h] at h1 h2
  exact ⟨v, h1, h2, h3⟩
/-- What Parse answers. -/
def parseB (l : Bs) : List Pr × Nat × Nat :=
  if (full l).2.2 ≠ 0 then ([], (full l).2.1, (full l).2.2)
  else if (sourceP l.length ⟨(full l).1, 0, 0⟩).2.e ≠ 0 then ([], (sourceP l.length ⟨(full l).1, 0, 0⟩).2.a, (sourceP l.length ⟨(full l).1, 0, 0⟩).2.e)
  else if vB (sourceP l.length ⟨(full l).1, 0, 0⟩).1 = true then ((sourceP l.length ⟨(full l).1, 0, 0⟩).1, 0, 0)
  else ([], 0, 6)
def ParsePost (w : World) (r : List Pr × Nat × Nat) (e : Ending) (w' : World) : Prop :=
  ∃ v, e = .returned (.tuple #[v, .int .i64 (r.2.1 : Int), .int .i64 (r.2.2 : Int)]) ∧ Lies w' (fun k => w.heap.size ≤ k) v (.s 4 (r.1.flatMap dP)) ∧ Below w.heap.size w w'
def PrintPost (w : World) (ps : List Pr) (e : Ending) (w' : World) : Prop :=
  e = .returned (.tuple #[.string (ofL (if vB ps = true then canonB ps else [])), .int .i64 (if vB ps = true then 0 else 1)]) ∧ Below w.heap.size w w'
section
variable {w w' : World} {S T : Nat → Prop}
set_option maxHeartbeats 4000000 in
theorem print_any (ht : Tb w) (hg : gT < w.heap.size) (ps : List Pr) (v : Value) (L : Lies w S v (.s 4 (ps.flatMap dP))) :
    Calls Tryz.prog 20 #[v] w (PrintPost w ps) := by
  obtain ⟨A, m, c, rfl, -⟩ := L.slc
  have HT := Lib.hid ht
  have HG := Lib.hid hg
  have LL := Lib.hid L
  clear ht hg L
  unfold PrintPost
  cases hv : vB ps with
  | false =>
    have HV := Lib.hid hv
    clear hv
    go_enter Tryz.func20, Tryz.ntmps20
    go_wp2_with fail
    refine (valid_any HT.out HG.out ps _ LL.out).mono ?_; rintro e w3 ⟨rfl, hb3⟩; rw [HV.out]
    have B3 := Lib.hid hb3
    clear hb3
    go_wp2_with fail
    refine bodyPost_ret (v := .tuple #[.string ⟨#[]⟩, .int .i64 1]) (by simp [results, Tryz.results20, go_sem]) rfl ?_
    exact ⟨rfl, B3.out⟩
  | true =>
    have HS := Lib.hid (vall_sm (ps := ps) (by unfold vB at hv; rw [Bool.and_eq_true] at hv; exact hv.1))
    have HV := Lib.hid hv
    clear hv
    go_enter Tryz.func20, Tryz.ntmps20
    go_wp2_with fail
    refine (valid_any HT.out HG.out ps _ LL.out).mono ?_; rintro e w3 ⟨rfl, hb3⟩; rw [HV.out]
    have B3 := Lib.hid hb3
    clear hb3
    go_wp2_with fail
    refine (canon_any (S := fun k => S k ∧ k < w.heap.size) (HT.out.below B3.out) (Nat.lt_of_lt_of_le HG.out B3.out.size) ps HS.out.1 _ ((show Lies w (fun k => S k ∧ k < w.heap.size) _ _ from LL.out.mono fun k hk hS => ⟨hS, hk⟩).belowT B3.out) (fun k hk => Nat.lt_of_lt_of_le hk.2 B3.out.size) HS.out.2.1 HS.out.2.2).mono ?_; rintro e w4 ⟨rfl, hb4⟩
    have B4 := Lib.hid (B3.out.trans (hb4.mono B3.out.size))
    clear hb4
    go_wp2_with fail
    refine bodyPost_ret (v := .tuple #[.string (ofL (canonB ps)), .int .i64 0]) (by simp [results, Tryz.results20, go_sem]) rfl ?_
    exact ⟨rfl, B4.out⟩
set_option maxHeartbeats 8000000 in
theorem parse_any (ht : Tb w) (hg : gT < w.heap.size) (l : Bs) : Calls Tryz.prog 14 #[.string (ofL l)] w (ParsePost w (parseB l)) := by
  obtain ⟨s, hs⟩ : ∃ s, ofL l = s := ⟨_, rfl⟩
  have hsz : s.size = l.length := by rw [← hs, ofL_size]
  have HT := Lib.hid ht
  have HG := Lib.hid hg
  obtain ⟨ts, a, x, hf⟩ : ∃ ts a x, full l = (ts, a, x) := ⟨_, _, _, rfl⟩
  have HTK := Lib.hid (toks_at s l hs.symm ts a x hf w)
  rw [hs]
  clear ht hg
  by_cases hx : x = 0
  · subst hx
    have hl8 : l.length ≤ 8000 := by
      by_cases h8 : 8000 < l.length
      · unfold full at hf; rw [if_pos h8] at hf; simp at hf
      · omega
    have hlx := full_small hl8
    have hst : SmT ts := by
      have h0 := lxs_sm hl8 (by rw [← hlx, hf])
      rwa [← hlx, hf] at h0
    have HST := Lib.hid hst
    have ha0 : a = 0 := by
      have := (lxs_bad 0 l).2 (by rw [← hlx, hf])
      rwa [← hlx, hf] at this
    subst ha0
    obtain ⟨R, hR⟩ : ∃ R, sourceP l.length ⟨ts, 0, 0⟩ = R := ⟨_, rfl⟩
    have HR := Lib.hid hR
    have HSZ := Lib.hid hsz
    have HL8 := Lib.hid hl8
    have hP : parseB l = if R.2.e ≠ 0 then ([], R.2.a, R.2.e) else if vB R.1 = true then (R.1, 0, 0) else ([], 0, 6) := by
      unfold parseB
      rw [hf]
      simp only [ne_eq, not_true_eq_false, if_false]
      rw [hR]
    have hs8 : s.size ≤ 8000 := by omega
    clear hs hf hlx hst hR hl8
    have HSTR : ∀ (B : World) (v : Value), (∀ b, v.ownBlock = some b → b < B.heap.size) → Toks B v ts → Prs (B.alloc (.cells #[v, .int .i64 (l.length : Int), .int .i64 ((0 : Nat) : Int), .int .i64 ((0 : Nat) : Int)] 81)) B.heap.size l.length ⟨ts, 0, 0⟩ := fun B v hB hv =>
      ⟨⟨v, heap_alloc_new B _, hv.below ((Below.refl B.heap.size B).alloc (Nat.le_refl _) _), hB⟩, HST.out, HL8.out, Nat.zero_le _, Nat.zero_le _, fun h => absurd rfl h⟩
    have HPR := Lib.hid HSTR
    clear HSTR
    have HP := Lib.hid hP
    clear hP hsz
    by_cases he : R.2.e = 0
    · have e0 : ((R.2.e : Int) == 0) = true := by rw [beq_iff_eq]; omega
      cases hv : vB R.1 with
      | false =>
        have HF := Lib.hid (show parseB l = ([], 0, 6) by rw [HP.out, if_neg (by simp [he]), if_neg (by simp [hv])])
        have HV := Lib.hid hv
        clear hv he
        go_enter Tryz.func14, Tryz.ntmps14
        go_wp2_with fail
        refine HTK.out.mono ?_; rintro e w3 ⟨v, rfl, ht3, hb3, ho3⟩
        obtain ⟨A, c, rfl⟩ := ht3.shape
        have B3 := Lib.hid hb3
        have P3 := Lib.hid (HPR.out w3 _ ho3 ht3)
        obtain ⟨W3, hW3⟩ : ∃ W, w3.alloc (.cells #[.slice A ts.length c, .int .i64 (l.length : Int), .int .i64 ((0 : Nat) : Int), .int .i64 ((0 : Nat) : Int)] 81) = W := ⟨_, rfl⟩
        have A3 := Lib.hid (show Below w.heap.size w W3 by rw [← hW3]; exact B3.out.alloc B3.out.size _)
        rw [hW3] at P3
        have HW3 := Lib.hid (show w3.alloc (.cells #[.slice A ts.length c, .int .i64 (l.length : Int), .int .i64 0, .int .i64 0] 81) = W3 from hW3)
        clear hb3 ho3 ht3 hW3
        go_wp2_with fail
        rw [HSZ.out, HW3.out]
        refine (psource_any P3.out).mono ?_; rintro e w4 ⟨v, rfl, L4, P4, O4⟩
        rw [HR.out] at L4 P4
        obtain ⟨A5, m5, c5, rfl, -⟩ := L4.slc
        have B4 := Lib.hid (A3.out.trans (O4.toBelow B3.out.size A3.out.size))
        have M4 := Lib.hid (L4.mono fun k _ hk => Nat.le_trans A3.out.size hk)
        obtain ⟨v5, g5, -, -⟩ := P4.blk
        have y2 : w4.cell? ⟨w3.heap.size, 2, none⟩ = some (.int .i64 (R.2.a : Int)) := cell_of_row _ _ 2 _ _ _ g5
        have y3 : w4.cell? ⟨w3.heap.size, 3, none⟩ = some (.int .i64 (R.2.e : Int)) := cell_of_row _ _ 3 _ _ _ g5
        clear g5 L4 P4 O4
        go_wp2_with fail
        refine (valid_any (HT.out.below B4.out) (Nat.lt_of_lt_of_le HG.out B4.out.size) R.1 _ M4.out).mono ?_; rintro e w5 ⟨rfl, hb5⟩; rw [HV.out]
        have B5 := Lib.hid (B4.out.trans (hb5.mono B4.out.size))
        have M5 := Lib.hid (M4.out.belowT hb5)
        clear hb5 y2 y3
        go_wp2_with fail
        clear M5
        refine bodyPost_ret (v := .tuple #[.slice none 0 0, .int .i64 0, .int .i64 6]) (by simp [results, Tryz.results14, go_sem]) rfl ?_
        exact ⟨_, by rw [HF.out]; rfl, by rw [HF.out]; exact Lies.nil 4, B5.out⟩
      | true =>
        have HF := Lib.hid (show parseB l = (R.1, 0, 0) by rw [HP.out, if_neg (by simp [he]), if_pos hv])
        have HV := Lib.hid hv
        clear hv he
        go_enter Tryz.func14, Tryz.ntmps14
        go_wp2_with fail
        refine HTK.out.mono ?_; rintro e w3 ⟨v, rfl, ht3, hb3, ho3⟩
        obtain ⟨A, c, rfl⟩ := ht3.shape
        have B3 := Lib.hid hb3
        have P3 := Lib.hid (HPR.out w3 _ ho3 ht3)
        obtain ⟨W3, hW3⟩ : ∃ W, w3.alloc (.cells #[.slice A ts.length c, .int .i64 (l.length : Int), .int .i64 ((0 : Nat) : Int), .int .i64 ((0 : Nat) : Int)] 81) = W := ⟨_, rfl⟩
        have A3 := Lib.hid (show Below w.heap.size w W3 by rw [← hW3]; exact B3.out.alloc B3.out.size _)
        rw [hW3] at P3
        have HW3 := Lib.hid (show w3.alloc (.cells #[.slice A ts.length c, .int .i64 (l.length : Int), .int .i64 0, .int .i64 0] 81) = W3 from hW3)
        clear hb3 ho3 ht3 hW3
        go_wp2_with fail
        rw [HSZ.out, HW3.out]
        refine (psource_any P3.out).mono ?_; rintro e w4 ⟨v, rfl, L4, P4, O4⟩
        rw [HR.out] at L4 P4
        obtain ⟨A5, m5, c5, rfl, -⟩ := L4.slc
        have B4 := Lib.hid (A3.out.trans (O4.toBelow B3.out.size A3.out.size))
        have M4 := Lib.hid (L4.mono fun k _ hk => Nat.le_trans A3.out.size hk)
        obtain ⟨v5, g5, -, -⟩ := P4.blk
        have y2 : w4.cell? ⟨w3.heap.size, 2, none⟩ = some (.int .i64 (R.2.a : Int)) := cell_of_row _ _ 2 _ _ _ g5
        have y3 : w4.cell? ⟨w3.heap.size, 3, none⟩ = some (.int .i64 (R.2.e : Int)) := cell_of_row _ _ 3 _ _ _ g5
        clear g5 L4 P4 O4
        go_wp2_with fail
        refine (valid_any (HT.out.below B4.out) (Nat.lt_of_lt_of_le HG.out B4.out.size) R.1 _ M4.out).mono ?_; rintro e w5 ⟨rfl, hb5⟩; rw [HV.out]
        have B5 := Lib.hid (B4.out.trans (hb5.mono B4.out.size))
        have M5 := Lib.hid (M4.out.belowT hb5)
        clear hb5 y2 y3
        go_wp2_with fail
        refine bodyPost_ret (v := .tuple #[.slice A5 m5 c5, .int .i64 0, .int .i64 0]) (by simp [results, Tryz.results14, go_sem]) rfl ?_
        exact ⟨_, by rw [HF.out]; rfl, by rw [HF.out]; exact M5.out, B5.out⟩
    · have e0 : ((R.2.e : Int) == 0) = false := by rw [beq_eq_false_iff_ne]; omega
      have HF := Lib.hid (show parseB l = ([], R.2.a, R.2.e) by rw [HP.out, if_pos he])
      clear he
      go_enter Tryz.func14, Tryz.ntmps14
      go_wp2_with fail
      refine HTK.out.mono ?_; rintro e w3 ⟨v, rfl, ht3, hb3, ho3⟩
      obtain ⟨A, c, rfl⟩ := ht3.shape
      have B3 := Lib.hid hb3
      have P3 := Lib.hid (HPR.out w3 _ ho3 ht3)
      obtain ⟨W3, hW3⟩ : ∃ W, w3.alloc (.cells #[.slice A ts.length c, .int .i64 (l.length : Int), .int .i64 ((0 : Nat) : Int), .int .i64 ((0 : Nat) : Int)] 81) = W := ⟨_, rfl⟩
      have A3 := Lib.hid (show Below w.heap.size w W3 by rw [← hW3]; exact B3.out.alloc B3.out.size _)
      rw [hW3] at P3
      have HW3 := Lib.hid (show w3.alloc (.cells #[.slice A ts.length c, .int .i64 (l.length : Int), .int .i64 0, .int .i64 0] 81) = W3 from hW3)
      clear hb3 ho3 ht3 hW3
      go_wp2_with fail
      rw [HSZ.out, HW3.out]
      refine (psource_any P3.out).mono ?_; rintro e w4 ⟨v, rfl, L4, P4, O4⟩
      rw [HR.out] at L4 P4
      obtain ⟨A5, m5, c5, rfl, -⟩ := L4.slc
      have B4 := Lib.hid (A3.out.trans (O4.toBelow B3.out.size A3.out.size))
      have M4 := Lib.hid (L4.mono fun k _ hk => Nat.le_trans A3.out.size hk)
      obtain ⟨v5, g5, -, -⟩ := P4.blk
      have y2 : w4.cell? ⟨w3.heap.size, 2, none⟩ = some (.int .i64 (R.2.a : Int)) := cell_of_row _ _ 2 _ _ _ g5
      have y3 : w4.cell? ⟨w3.heap.size, 3, none⟩ = some (.int .i64 (R.2.e : Int)) := cell_of_row _ _ 3 _ _ _ g5
      clear g5 L4 P4 O4
      go_wp2_with fail
      go_region
      go_wp2_with fail
      all_goals
        refine bodyPost_ret (v := .tuple #[.slice none 0 0, .int .i64 (R.2.a : Int), .int .i64 (R.2.e : Int)]) (by simp [results, Tryz.results14, go_sem]) rfl ?_
        exact ⟨_, by rw [HF.out], by rw [HF.out]; exact Lies.nil 4, B4.out.drew⟩
  · have HP := Lib.hid (show parseB l = ([], a, x) by unfold parseB; rw [hf]; exact if_pos hx)
    have hx2 : ((x : Int) == 0) = false := by rw [beq_eq_false_iff_ne]; omega
    clear hs hf hx
    go_enter Tryz.func14, Tryz.ntmps14
    go_wp2_with fail
    refine HTK.out.mono ?_; rintro e w3 ⟨v, rfl, -, hb3, -⟩
    have B3 := Lib.hid hb3
    clear hb3
    go_wp2_with fail
    refine bodyPost_ret (v := .tuple #[.slice none 0 0, .int .i64 (a : Int), .int .i64 (x : Int)]) (by simp [results, Tryz.results14, go_sem]) rfl ?_
    exact ⟨_, by rw [HP.out], by rw [HP.out]; exact Lies.nil 4, B3.out⟩
end
/- Layer 10: the example of the document, plainly. -/
open Go.RowKit

def awS : Bs := [112, 114, 111, 116, 111, 99, 111, 108, 32, 80, 40, 65, 44, 66, 41, 123, 109, 101, 115, 115, 97, 103, 101, 32, 109, 40, 120, 58, 105, 110, 116, 32, 49, 46, 46, 53, 41, 119, 104, 101, 114, 101, 32, 120, 60, 110, 46, 121, 43, 49, 59, 65, 45, 62, 66, 58, 109, 59, 125]
def awP : Pr := ⟨[80], [[65], [66]], [⟨[109], [⟨[120], 1, 1, 5⟩], [⟨⟨2, [], [120], 0⟩, [60], ⟨2, [110], [121], 1⟩⟩]⟩], [.mk 1 [65] [[66]] [109] [] 0 []]⟩
def awC : Bs := [112, 114, 111, 116, 111, 99, 111, 108, 32, 80, 40, 65, 44, 32, 66, 41, 32, 123, 10, 9, 109, 101, 115, 115, 97, 103, 101, 32, 109, 40, 120, 58, 32, 105, 110, 116, 32, 49, 46, 46, 53, 41, 32, 119, 104, 101, 114, 101, 32, 120, 32, 60, 32, 110, 46, 121, 32, 43, 32, 49, 59, 10, 9, 65, 32, 45, 62, 32, 66, 58, 32, 109, 59, 10, 125, 10]
def awT : List Tok := (full awS).1
set_option maxRecDepth 100000 in
theorem aw_tok : (full awS).2 = (0, 0) := by kernel_rfl
set_option maxRecDepth 100000 in
theorem aw_src : sourceP awS.length ⟨(full awS).1, 0, 0⟩ = ([awP], ⟨[], 0, 0⟩) := by kernel_rfl
set_option maxRecDepth 100000 in
theorem aw_canon : canonB [awP] = awC := by kernel_rfl
set_option maxRecDepth 100000 in
theorem aw_all : alB vpB 0 10 [awP] = true := by kernel_rfl
theorem aw_valid : vB [awP] = true := by
  unfold vB; rw [aw_all, aw_canon]; rfl
set_option maxRecDepth 100000 in
theorem aw_eq : eqL prq [awP] [awP] = true := by kernel_rfl
theorem aw_parse : parseB awS = ([awP], 0, 0) := by
  unfold parseB
  rw [show (full awS).2.2 = 0 by rw [aw_tok]]
  rw [aw_src, aw_valid]
  rfl
/- Layer 10: the contract of awake. -/
open Go.RowKit

theorem awGP : ∀ p ∈ [awP], GP p := by
  intro p hp
  simp only [List.mem_cons, List.not_mem_nil, or_false] at hp
  subst hp
  refine ⟨by decide, by decide, ?_, by decide, ?_, ?_⟩
  · intro m hm
    simp only [awP, List.mem_cons, List.not_mem_nil, or_false] at hm
    subst hm
    exact ⟨by decide, by decide⟩
  · intro x hx
    simp only [awP, List.mem_cons, List.not_mem_nil, or_false] at hx
    subst hx
    exact (by decide : (1 : Nat) ≤ 1000000000)
  · intro x hx
    simp only [awP, List.mem_cons, List.not_mem_nil, or_false] at hx
    subst hx
    rfl
section
variable {w w' : World} {S : Nat → Prop}
theorem aw_p (ht : Tb w) (hg : gT < w.heap.size) : Calls Tryz.prog 14 #[.string ⟨#[112, 114, 111, 116, 111, 99, 111, 108, 32, 80, 40, 65, 44, 66, 41, 123, 109, 101, 115, 115, 97, 103, 101, 32, 109, 40, 120, 58, 105, 110, 116, 32, 49, 46, 46, 53, 41, 119, 104, 101, 114, 101, 32, 120, 60, 110, 46, 121, 43, 49, 59, 65, 45, 62, 66, 58, 109, 59, 125]⟩] w fun e w' => ∃ ad c, e = .returned (.tuple #[.slice (some ad) 1 c, .int .i64 0, .int .i64 0]) ∧ Lies w' (fun k => w.heap.size ≤ k) (.slice (some ad) 1 c) (.s 4 ([awP].flatMap dP)) ∧ Below w.heap.size w w' := by
  have h := parse_any ht hg awS
  rw [aw_parse] at h
  refine Calls.mono (show Calls Tryz.prog 14 #[.string ⟨#[112, 114, 111, 116, 111, 99, 111, 108, 32, 80, 40, 65, 44, 66, 41, 123, 109, 101, 115, 115, 97, 103, 101, 32, 109, 40, 120, 58, 105, 110, 116, 32, 49, 46, 46, 53, 41, 119, 104, 101, 114, 101, 32, 120, 60, 110, 46, 121, 43, 49, 59, 65, 45, 62, 66, 58, 109, 59, 125]⟩] w (ParsePost w ([awP], 0, 0)) from h) ?_
  rintro e w' ⟨v, rfl, L, hb⟩
  obtain ⟨b, o, n, c, rfl, hn, -⟩ := sl_cell L (by intro h; have := congrArg List.length h; simp [dP] at this)
  have : n = 1 := by simp [dP] at hn; omega
  subst this
  exact ⟨_, c, rfl, L, hb⟩
theorem aw_q (ht : Tb w) (hg : gT < w.heap.size) (v : Value) (L : Lies w S v (.s 4 ([awP].flatMap dP))) : Calls Tryz.prog 20 #[v] w fun e w' => e = .returned (.tuple #[.string (ofL awC), .int .i64 0]) ∧ Below w.heap.size w w' := by
  refine (print_any ht hg [awP] v L).mono ?_
  rintro e w' ⟨rfl, hb⟩
  exact ⟨by rw [aw_valid, aw_canon]; rfl, hb⟩
set_option maxRecDepth 20000 in
set_option maxHeartbeats 4000000 in
theorem awake_any (ht : Tb w) (hg : gT < w.heap.size) : Calls Tryz.prog 13 #[] w fun e w' => e = .returned (.bool true) ∧ Below w.heap.size w w' := by
  have HT := Lib.hid ht
  have HG := Lib.hid hg
  clear ht hg
  go_enter Tryz.func13, Tryz.ntmps13
  go_wp2_with fail
  refine (aw_p HT.out HG.out).mono ?_; rintro e w3 ⟨ad, c, rfl, L3, hb3⟩
  have B3 := Lib.hid hb3
  have M3 := Lib.hid L3
  clear hb3 L3
  go_wp2_with fail
  refine (aw_q (HT.out.below B3.out) (Nat.lt_of_lt_of_le HG.out B3.out.size) _ M3.out).mono ?_; rintro e w4 ⟨rfl, hb4⟩
  have B4 := Lib.hid (B3.out.trans (hb4.mono B3.out.size))
  have M4 := Lib.hid (M3.out.belowT hb4)
  clear hb4
  have htl : (ofL awC).toList = [112, 114, 111, 116, 111, 99, 111, 108, 32, 80, 40, 65, 44, 32, 66, 41, 32, 123, 10, 9, 109, 101, 115, 115, 97, 103, 101, 32, 109, 40, 120, 58, 32, 105, 110, 116, 32, 49, 46, 46, 53, 41, 32, 119, 104, 101, 114, 101, 32, 120, 32, 60, 32, 110, 46, 121, 32, 43, 32, 49, 59, 10, 9, 65, 32, 45, 62, 32, 66, 58, 32, 109, 59, 10, 125, 10] := ofL_toList awC
  go_wp2_with fail
  refine (valid_any (HT.out.below B4.out) (Nat.lt_of_lt_of_le HG.out B4.out.size) [awP] _ M4.out).mono ?_; rintro e w5 ⟨rfl, hb5⟩; rw [aw_valid]
  have B5 := Lib.hid (B4.out.trans (hb5.mono B4.out.size))
  have M5 := Lib.hid (M4.out.belowT hb5)
  clear hb5
  go_wp2_with fail
  refine (equal_flat [awP] [awP] _ _ M5.out M5.out awGP awGP (by decide)).mono ?_; rintro e w6 ⟨rfl, hb6⟩; rw [aw_eq]
  have B6 := Lib.hid (B5.out.trans (hb6.mono B5.out.size))
  clear hb6
  go_wp2_with fail
  go_ret
  exact ⟨rfl, B6.out⟩
end
/- What the laws of layer 10 are handed: the table of powers of ten, as the row's condition says it. -/
open Go.RowKit

theorem gPowType : ∀ g, Tryz.prog.globalNamed "internal/strconv.uint64pow10" = some g → (Tryz.prog.globals[g]?).map (·.type) = some 299 := by
  intro g hg
  obtain rfl := Option.some.inj ((show Tryz.prog.globalNamed "internal/strconv.uint64pow10" = some 3 by kernel_rfl).symm.trans hg)
  kernel_rfl
set_option maxRecDepth 100000 in
theorem tb_of_laid {W : World} (h : laidMetH Tryz.prog Rows.syntaxFirstRow.laid W) : Tb W := by
  rw [MakeChecks.laidMetH_plain _ _ _ (by kernel_rfl)] at h
  obtain ⟨ps, hl, -⟩ := h
  obtain ⟨_, _, _, _, _, q1, -, -, -, -, hl1, -⟩ := hl
  obtain ⟨_, _, _, _, _, q2, -, -, -, -, hl2, -⟩ := hl1
  obtain ⟨g, t, cs, fuel, p, q, hg, ht, hv, hd, -, -⟩ := hl2
  have ht2 := gPowType g hg
  obtain rfl := Option.some.inj (ht2.symm.trans ht)
  have hc := Lib.cells_of_tab (k := .u64) (zs := Lib.pow10Tab) (n := 20) (e := 293) (by kernel_rfl) (by kernel_rfl) (by kernel_rfl) (by kernel_rfl) hd
  show W.var? Tryz.prog "internal/strconv.uint64pow10" = _
  rw [hv, ← hc]
end Go.Proofs.YtpnlojcimeiihaaGreatDoor
