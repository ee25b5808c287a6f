/- Layer 10: the contract of line. -/
import Derived.Test.YtpnlojcimeiihaaGreatDoorMSynSo
import Derived.Test.YtpnlojcimeiihaaGreatDoorMSyRl
import Derived.Deep.LoopGhost
import Derived.Test.YtpnlojcimeiihaaGreatDoorMLexSp
import Derived.Lib.ItoaLen
namespace Go.Proofs.YtpnlojcimeiihaaGreatDoor
/- Layer 10: the contract of line. -/
open Go.RowKit

section
variable {g B d : Nat} {l : Bs} {w w' : World}
/-- Block b holds strings: the parts of a line. -/
def Parts (w : World) (b : Nat) (ps : List Bs) : Prop := w.heap[b]? = some (.cells (ps.map vS).toArray 9 (0, 0))
theorem Parts.pk {b : Nat} {ps : List Bs} (h : Parts w b ps) (hk : Pk g B w w') (hb : b ≠ g) : Parts w' b ps :=
  (hk.block b (lt_of_some h) hb (.inr fun cs fr hc => by
    unfold Parts at h
    rw [h] at hc
    simp only [Option.some.injEq, Obj.cells.injEq] at hc
    exact absurd hc.2.1 (by decide))).trans h
theorem Parts.cell {b i : Nat} {ps : List Bs} {x : Bs} (h : Parts w b ps) (hi : ps[i]? = some x) : w.cell? ⟨b, i, none⟩ = some (.string (ofL x)) := by
  rw [cell_of_row w b i _ _ _ h, ← Array.getElem?_toList]
  simp [hi, vS]
def Ln1 (w : World) (B g d b : Nat) (l : Bs) (ps : List Bs) (gk : Nat) (v : Value) (wr : World) : Prop :=
  ∃ i : Nat, v = .int .i64 (i : Int) ∧ i ≤ d ∧ d ≤ gk + i ∧ Hid (Pt wr B g d (l ++ List.replicate i 9)) ∧ Hid (Pk g B w wr) ∧ Hid (Parts wr b ps)
def Ln2 (w : World) (B g d b : Nat) (l : Bs) (ps : List Bs) (gk : Nat) (v : Value) (wr : World) : Prop :=
  ∃ i : Nat, v = .int .i64 (i : Int) ∧ i ≤ ps.length ∧ ps.length ≤ gk + i ∧ Hid (Pt wr B g d (l ++ (ps.take i).flatten)) ∧ Hid (Pk g B w wr) ∧ Hid (Parts wr b ps)
theorem flat_le {ps : List Bs} {x : Bs} (h : x ∈ ps) : x.length ≤ ps.flatten.length := by
  induction ps with
  | nil => simp at h
  | cons a r ih =>
    rw [List.flatten_cons, List.length_append]
    rcases List.mem_cons.1 h with rfl | h
    · omega
    · have := ih h; omega
theorem flat_take (ps : List Bs) (i : Nat) : (ps.take i).flatten.length ≤ ps.flatten.length := by
  have h := congrArg (fun x : List Bs => x.flatten.length) (List.take_append_drop i ps)
  simp only [List.flatten_append, List.length_append] at h
  omega
set_option maxRecDepth 100000 in
set_option maxHeartbeats 2000000 in
theorem line_any {b : Nat} {ps : List Bs} (h : Pt w B g d l) (hp : Parts w b ps) (hbg : b ≠ g) (hps : ps.length ≤ 100) (hl : (l ++ lineB d ps).length ≤ 1000000000) :
    Calls Tryz.prog 156 #[.pointer (some ⟨g, 0, none⟩), .slice (some ⟨b, 0, none⟩) ps.length ps.length] w (PtGot B g d (l ++ lineB d ps) (.tuple #[]) w) := by
  have hl2 : l.length + (d + ps.flatten.length + 1) ≤ 1000000000 := by
    have := hl
    unfold lineB at this
    simp only [List.length_append, List.length_replicate, List.length_cons, List.length_nil] at this
    omega
  have c2 : w.cell? ⟨g, 2, none⟩ = some (.int .i64 (d : Int)) := by
    obtain ⟨a, v, _, h2, _⟩ := h.blk
    exact cell_of_row w g 2 _ _ _ h2
  have H := Lib.hid h
  have HP := Lib.hid hp
  have HL := Lib.hid hl2
  have hd : d ≤ 1000000000 := by omega
  clear h hp hl hl2
  go_enter Tryz.func156, Tryz.ntmps156
  go_wp2_with fail
  go_loopg [10, 11, 12, 13, 14, 15, 16] d (fun gk v _ _ _ _ _ _ wr => Ln1 w B g d b l ps gk v wr)
  case atStart => exact ⟨0, rfl, by omega, by omega, by simpa using H, Pk.refl g B w, HP⟩
  case round =>
    obtain ⟨i, rfl, hi, hgk, HPt, HPk, HPa⟩ := hrel
    by_cases hid : i = d
    · subst hid
      have hlt : ¬ ((i : Int) < (i : Int)) := by omega
      clear H HP c2
      go_wp2_with fail
      go_loopg [5, 19, 20, 21, 22, 23, 24, 25, 26, 27, 28] ps.length (fun gk _ v _ _ _ _ _ _ _ _ _ wr => Ln2 w B g i b (l ++ List.replicate i 9) ps gk v wr)
      case atStart => exact ⟨0, rfl, by omega, by omega, by simpa using HPt, HPk, HPa⟩
      case round =>
        clear HPt HPk HPa
        obtain ⟨k, rfl, hk, hgk2, HPt, HPk, HPa⟩ := hrel
        have hfl := Lib.hid (flat_take ps k)
        by_cases hkd : k = ps.length
        · have hlt2 : ¬ ((k : Int) < (ps.length : Int)) := by omega
          have e1 := Lib.hid (show (ps.take k).flatten = ps.flatten by rw [hkd, List.take_length])
          clear hkd
          go_wp2_with fail
          refine (writeByte_any HPt.out (by have := HL.out; have := hfl.out; simp only [List.length_append, List.length_replicate]; omega) 10).mono ?_
          rintro e w3 ⟨rfl, P3, K3⟩
          have P3' := Lib.hid P3
          have K3' := Lib.hid (HPk.out.trans K3)
          clear P3 K3
          go_wp2_with fail
          refine bodyPost_end (v := .tuple #[]) (by simp [results, Tryz.results156, go_sem]) rfl ⟨rfl, ?_, K3'.out⟩
          have := P3'.out
          rw [e1.out] at this
          unfold lineB
          rw [← List.append_assoc, ← List.append_assoc]
          exact this
        · have hlt2 : (k : Int) < (ps.length : Int) := by omega
          have hkl : k < ps.length := by omega
          obtain ⟨x, hx⟩ : ∃ x, ps[k]? = some x := ⟨ps[k], List.getElem?_eq_getElem hkl⟩
          have ck := HPa.out.cell hx
          have hxl := Lib.hid (flat_le (List.mem_of_getElem? hx))
          have HX := Lib.hid hx
          clear hx hkd
          go_wp2_with fail
          refine (writeString_any HPt.out (by have := HL.out; have := hfl.out; simp only [List.length_append, List.length_replicate]; omega) x (by have := HL.out; have := hxl.out; omega)).mono ?_
          rintro e w3 ⟨rfl, P3, K3⟩
          have P3' := Lib.hid P3
          have K3' := Lib.hid (HPk.out.trans K3)
          have A3' := Lib.hid (HPa.out.pk K3 hbg)
          clear P3 K3 ck
          go_wp2_with fail
          go_roundg (gk - 1)
          case rel =>
            refine ⟨k + 1, by simp, by omega, by omega, ?_, K3', A3'⟩
            have := P3'.out
            unfold Hid
            rw [List.take_add_one, HX.out]
            simpa [List.append_assoc] using this
          case measure => omega
    · have hlt : (i : Int) < (d : Int) := by omega
      clear H HP
      go_wp2_with fail
      refine (writeByte_any HPt.out (by have := HL.out; simp only [List.length_append, List.length_replicate]; omega) 9).mono ?_
      rintro e w3 ⟨rfl, P3, K3⟩
      have P3' := Lib.hid P3
      have K3' := Lib.hid (HPk.out.trans K3)
      have A3' := Lib.hid (HPa.out.pk K3 hbg)
      clear P3 K3
      go_wp2_with fail
      go_roundg (gk - 1)
      case rel =>
        refine ⟨i + 1, by simp, by omega, by omega, ?_, K3', A3'⟩
        have := P3'.out
        unfold Hid
        rw [List.replicate_succ', ← List.append_assoc]
        exact this
      case measure => omega
end
/- string(r) of a byte's number below 128; texts put together. -/
open Go.RowKit

theorem encode_small (r : Nat) (h : r < 128) : Utf8.encode (r : Int) = ofL [UInt8.ofNat r] := by
  have hv : Utf8.valid (r : Int) = true := by simp [Utf8.valid]; omega
  unfold Utf8.encode
  simp only [hv, if_true, Int.toNat_natCast]
  rw [if_pos (by omega)]
  rfl
theorem rune_str (r : Nat) (h : r < 128) (w : World) : (convert 21 9 (.int .i32 (r : Int))).run Tryz.prog w = .ok (.string (ofL [UInt8.ofNat r])) w := by
  rw [← encode_small r h]
  simp [convert, run_underlying Tryz.underlying21, run_underlying Tryz.underlying9, Conv.intToString, go_sem]
theorem ofL_append (a b : List UInt8) : ofL a ++ ofL b = ofL (a ++ b) := by
  apply ByteArray.ext
  simp [ofL, ByteArray.data_append]
/- Layer 10: the contracts of showAdded, showTerm, listed, within, isElse. -/
open Go.RowKit

section
variable {w w' : World}
theorem below_grow (w : World) (os : Array Obj) : Below w.heap.size w (Go.Sort.grow w os) :=
  ⟨rfl, rfl, rfl, by simp [Go.Sort.grow], fun k hk => by simp only [Go.Sort.grow]; rw [Array.getElem?_append_left hk]⟩
theorem itoa_any (h : Tb w) (n : Int) (h0 : -1000000000 ≤ n) (h1 : n ≤ 1000000000) : Calls Tryz.prog 235 #[.int .i64 n] w (Tells w (.string (ofL (itoaB n)))) := by
  refine (Go.Proofs.YtpnlojcimeiihaaGreatDoor.Tryz.strconv_Itoa n (by omega) (by omega) w h).mono ?_
  rintro e w' ⟨rfl, k, os, rfl⟩
  exact ⟨rfl, below_drewN (Below.refl _ w) k |>.trans (below_grow (w.drewN k) os)⟩
theorem itoa_len (n : Int) (h0 : -1000000000 ≤ n) (h1 : n ≤ 1000000000) : (itoaB n).length ≤ 100 := by
  exact Nat.le_trans (Go.Lib.itoa_length_le n (by omega) (by omega)) (by omega)
theorem ofL_app3 (a b c : Bs) : ofL a ++ ofL b ++ ofL c = ofL (a ++ b ++ c) := by rw [ofL_append, ofL_append]
theorem ofL_app4 (a b c d : Bs) : ofL a ++ ofL b ++ ofL c ++ ofL d = ofL (a ++ b ++ c ++ d) := by rw [ofL_append, ofL_append, ofL_append]
theorem ofL_app5 (a b c d e : Bs) : ofL a ++ ofL b ++ ofL c ++ ofL d ++ ofL e = ofL (a ++ b ++ c ++ d ++ e) := by rw [ofL_append, ofL_append, ofL_append, ofL_append]
theorem eS {x : ByteArray} {l : Bs} (h : x = ofL l) : Ending.returned (.string x) = Ending.returned (.string (ofL l)) := by rw [h]
theorem showAdded_len (n : Int) (h0 : -999999 ≤ n) (h1 : n ≤ 999999) : (showAddedB n).length ≤ 103 := by
  unfold showAddedB
  split
  · have := itoa_len n (by omega) (by omega); simp; omega
  · split
    · have := itoa_len (-n) (by omega) (by omega); simp; omega
    · simp
def SmN (n : Int) : Prop := -999999 ≤ n ∧ n ≤ 999999
set_option maxHeartbeats 1000000 in
theorem showAdded_any (h : Tb w) (n : Int) (hn : SmN n) : Calls Tryz.prog 251 #[.int .i64 n] w (Tells w (.string (ofL (showAddedB n)))) := by
  obtain ⟨h0, h1⟩ := hn
  have H := Lib.hid h
  clear h
  by_cases hp : 0 < n
  · have HS := Lib.hid (show showAddedB n = [32, 43, 32] ++ itoaB n by unfold showAddedB; rw [if_pos hp])
    go_enter Tryz.func251, Tryz.ntmps251
    go_wp2_with fail
    refine (itoa_any H.out n (by omega) (by omega)).mono ?_; rintro e w1 ⟨rfl, hb⟩
    have HB := Lib.hid hb
    have hz : (ofL (itoaB n)).size ≤ 100 := by rw [ofL_size]; exact itoa_len n (by omega) (by omega)
    clear hb
    go_wp2_with fail
    go_ret
    exact ⟨by rw [HS.out, ← ofL_append]; rfl, HB.out⟩
  · by_cases hq : n < 0
    · have HS := Lib.hid (show showAddedB n = [32, 45, 32] ++ itoaB (-n) by unfold showAddedB; rw [if_neg hp, if_pos hq])
      have hw : wrap64 (-n) = -n := by unfold wrap64; omega
      go_enter Tryz.func251, Tryz.ntmps251
      go_wp2_with fail
      refine (itoa_any H.out (-n) (by omega) (by omega)).mono ?_; rintro e w1 ⟨rfl, hb⟩
      have HB := Lib.hid hb
      have hz : (ofL (itoaB (-n))).size ≤ 100 := by rw [ofL_size]; exact itoa_len (-n) (by omega) (by omega)
      clear hb
      go_wp2_with fail
      go_ret
      exact ⟨by rw [HS.out, ← ofL_append]; rfl, HB.out⟩
    · have HS := Lib.hid (show showAddedB n = [] by unfold showAddedB; rw [if_neg hp, if_neg hq])
      go_enter Tryz.func251, Tryz.ntmps251
      go_wp2_with fail
      go_ret
      exact ⟨by rw [HS.out]; rfl, Below.refl _ _⟩
set_option maxHeartbeats 1000000 in
theorem listed_any {S : Nat → Prop} {v : Value} (l : List Bs) (h : Lies w S v (dL l)) (hn : l.length ≤ 10000) (hl : (joinB [44, 32] l).length ≤ 100000000) : Calls Tryz.prog 157 #[v] w (Tells w (.string (ofL (listedB l)))) := by
  have HJ := Lib.hid (join_any l [44, 32] h hn hl)
  obtain ⟨A, n, c, rfl, -⟩ := Lies.slc (show Lies w S v (.s 1 _) from h)
  have HS := Lib.hid (show listedB l = [40] ++ joinB [44, 32] l ++ [41] from rfl)
  rw [HS.out]
  obtain ⟨y, hy⟩ : ∃ y, joinB [44, 32] l = y := ⟨_, rfl⟩
  rw [hy] at HJ hl ⊢
  have hz : (ofL y).size ≤ 100000000 := by rw [ofL_size]; exact hl
  clear h hl hy HS
  go_enter Tryz.func157, Tryz.ntmps157
  go_wp2_with fail
  refine HJ.out.mono ?_; rintro e w1 ⟨rfl, hb⟩
  have HB := Lib.hid hb
  clear hb
  go_wp2_with fail
  go_ret
  exact ⟨eS (ofL_app3 [40] y [41]), HB.out⟩
/-- A term that is small enough. -/
def SmTm (t : Tm) : Prop := t.m.length ≤ 1000 ∧ t.f.length ≤ 1000 ∧ SmN t.n
theorem showTerm_len (t : Tm) (h : SmTm t) : (showTermB t).length ≤ 2200 := by
  obtain ⟨h1, h2, h3, h4⟩ := h
  have h5 := showAdded_len t.n h3 h4
  have h6 := itoa_len t.n (by omega) (by omega)
  unfold showTermB showFieldOf
  split
  · omega
  · split <;> split <;> simp <;> omega
set_option maxRecDepth 20000 in
set_option maxHeartbeats 4000000 in
theorem showTerm_any (h : Tb w) (t : Tm) (ht : SmTm t) : Calls Tryz.prog 236 #[vT t] w (Tells w (.string (ofL (showTermB t)))) := by
  obtain ⟨k, m, f, n⟩ := t
  obtain ⟨hml, hfl, hn⟩ := ht
  have hml' : m.length ≤ 1000 := hml
  have hfl' : f.length ≤ 1000 := hfl
  have hN := Lib.hid (show SmN n from hn)
  have hzm : (ofL m).size ≤ 1000 := by rw [ofL_size]; exact hml'
  have hzf : (ofL f).size ≤ 1000 := by rw [ofL_size]; exact hfl'
  have B1 := Lib.hid ((Below.refl _ w).alloc (Nat.le_refl _) (.cells #[.int .i64 k, .string (ofL m), .string (ofL f), .int .i64 n] 98))
  have H := Lib.hid (h.below B1.out)
  have hza := Lib.hid (show (ofL (showAddedB n)).size ≤ 103 by rw [ofL_size]; exact showAdded_len n hn.1 hn.2)
  unfold vT
  have hm : (ofL m).toList = m := ofL_toList m
  clear h hn hml hfl hml' hfl'
  by_cases h1 : k = 1
  · have e1 : (k == 1) = true := by simpa using h1
    have HS := Lib.hid (show showTermB ⟨k, m, f, n⟩ = itoaB n by unfold showTermB; rw [if_pos h1])
    have hb1 := hN.out.1
    have hb2 := hN.out.2
    clear h1
    go_enter Tryz.func236, Tryz.ntmps236
    go_wp2_with fail
    refine (itoa_any H.out n (by omega) (by omega)).mono ?_; rintro e w1 ⟨rfl, hb⟩
    have HB := Lib.hid (B1.out.trans (hb.mono (by simp)))
    clear hb
    go_wp2_with fail
    go_ret
    exact ⟨by rw [HS.out]; rfl, HB.out⟩
  · have e1 : (k == 1) = false := by simpa using h1
    by_cases h3 : k = 3
    · have e3 : (k == 3) = true := by simpa using h3
      by_cases hme : m = []
      · skip
        have HS := Lib.hid (show showTermB ⟨k, m, f, n⟩ = [108, 101, 110, 40] ++ f ++ [41] ++ showAddedB n by unfold showTermB showFieldOf; rw [if_neg h1, if_pos h3, if_pos hme])
        have e0 : (!m.isEmpty) = false := by simp [hme]
        clear h1 h3 hme
        go_enter Tryz.func236, Tryz.ntmps236
        go_wp2_with fail
        refine (showAdded_any H.out n hN.out).mono ?_; rintro e w1 ⟨rfl, hb⟩
        have HB := Lib.hid (B1.out.trans (hb.mono (by simp)))
        have hz := hza.out
        clear hb
        go_wp2_with fail
        go_ret
        exact ⟨by rw [HS.out]; exact eS (ofL_app4 [108, 101, 110, 40] f [41] (showAddedB n)), HB.out⟩
      · skip
        have HS := Lib.hid (show showTermB ⟨k, m, f, n⟩ = [108, 101, 110, 40] ++ (m ++ [46] ++ f) ++ [41] ++ showAddedB n by unfold showTermB showFieldOf; rw [if_neg h1, if_pos h3, if_neg hme])
        have e0 : (!m.isEmpty) = true := by simp [hme]
        clear h1 h3 hme
        go_enter Tryz.func236, Tryz.ntmps236
        go_wp2_with fail
        refine (showAdded_any H.out n hN.out).mono ?_; rintro e w1 ⟨rfl, hb⟩
        have HB := Lib.hid (B1.out.trans (hb.mono (by simp)))
        have hz := hza.out
        clear hb
        go_wp2_with fail
        go_ret
        exact ⟨by rw [HS.out]; exact eS (show ofL [108, 101, 110, 40] ++ (ofL m ++ ofL [46] ++ ofL f) ++ ofL [41] ++ ofL (showAddedB n) = _ by rw [ofL_app3 m, ofL_app4]), HB.out⟩
    · have e3 : (k == 3) = false := by simpa using h3
      by_cases hme : m = []
      · skip
        have HS := Lib.hid (show showTermB ⟨k, m, f, n⟩ = f ++ showAddedB n by unfold showTermB showFieldOf; rw [if_neg h1, if_neg h3, if_pos hme])
        have e0 : (!m.isEmpty) = false := by simp [hme]
        clear h1 h3 hme
        go_enter Tryz.func236, Tryz.ntmps236
        go_wp2_with fail
        refine (showAdded_any H.out n hN.out).mono ?_; rintro e w1 ⟨rfl, hb⟩
        have HB := Lib.hid (B1.out.trans (hb.mono (by simp)))
        have hz := hza.out
        clear hb
        go_wp2_with fail
        go_ret
        exact ⟨by rw [HS.out]; exact eS (ofL_append f (showAddedB n)), HB.out⟩
      · skip
        have HS := Lib.hid (show showTermB ⟨k, m, f, n⟩ = (m ++ [46] ++ f) ++ showAddedB n by unfold showTermB showFieldOf; rw [if_neg h1, if_neg h3, if_neg hme])
        have e0 : (!m.isEmpty) = true := by simp [hme]
        clear h1 h3 hme
        go_enter Tryz.func236, Tryz.ntmps236
        go_wp2_with fail
        refine (showAdded_any H.out n hN.out).mono ?_; rintro e w1 ⟨rfl, hb⟩
        have HB := Lib.hid (B1.out.trans (hb.mono (by simp)))
        have hz := hza.out
        clear hb
        go_wp2_with fail
        go_ret
        exact ⟨by rw [HS.out]; exact eS (ofL_app4 m [46] f (showAddedB n)), HB.out⟩
end
end Go.Proofs.YtpnlojcimeiihaaGreatDoor
