/- Layer 10: the contract of line. -/
import Derived.Test.YtekpefcggikcbaaGreatDoorMSynB
import Derived.Test.YtekpefcggikcbaaGreatDoorMSynM
import Derived.Deep.LoopGhost
import Derived.Test.YtekpefcggikcbaaGreatDoorMLexSp
import Derived.Lib.ItoaLen
import Derived.Test.YtekpefcggikcbaaGreatDoorRows
import Derived.WalkKit
import Derived.Orders
namespace Go.Proofs.YtekpefcggikcbaaGreatDoor
/- Layer 10: the contract of line. -/
open Go.RowKit

section
variable {g B d : Nat} {l : Bs} {w w' : World}
/-- Block b holds strings: the parts of a line. -/
def Parts (w : World) (b : Nat) (ps : List Bs) : Prop := w.heap[b]? = some (.cells (ps.map vS).toArray 9 (0, 0))
theorem Parts.pk {b : Nat} {ps : List Bs} (h : Parts w b ps) (hk : Pk g B w w') (hb : b ≠ g) : Parts w' b ps :=
 (hk.block b (lt_of_some h) hb (.inr fun cs fr hc => by
  unfold Parts at h
  rw [h] at hc
  simp only [Option.some.injEq, Obj.cells.injEq] at hc
  exact absurd hc.2.1 (by decide))).trans h
theorem Parts.cell {b i : Nat} {ps : List Bs} {x : Bs} (h : Parts w b ps) (hi : ps[i]? = some x) : w.cell? ⟨b, i, none⟩ = some (.string (ofL x)) := by
 rw [cell_of_row w b i _ _ _ h, ← Array.getElem?_toList]
 simp [hi, vS]
def Ln1 (w : World) (B g d b : Nat) (l : Bs) (ps : List Bs) (gk : Nat) (v : Value) (wr : World) : Prop :=
 ∃ i : Nat, v = .int .i64 (i : Int) ∧ i ≤ d ∧ d ≤ gk + i ∧ Hid (Pt wr B g d (l ++ List.replicate i 9)) ∧ Hid (Pk g B w wr) ∧ Hid (Parts wr b ps)
def Ln2 (w : World) (B g d b : Nat) (l : Bs) (ps : List Bs) (gk : Nat) (v : Value) (wr : World) : Prop :=
 ∃ i : Nat, v = .int .i64 (i : Int) ∧ i ≤ ps.length ∧ ps.length ≤ gk + i ∧ Hid (Pt wr B g d (l ++ (ps.take i).flatten)) ∧ Hid (Pk g B w wr) ∧ Hid (Parts wr b ps)
theorem flat_le {ps : List Bs} {x : Bs} (h : x ∈ ps) : x.length ≤ ps.flatten.length := by
 induction ps with
 | nil => simp at h
 | cons a r ih =>
  rw [List.flatten_cons, List.length_append]
  rcases List.mem_cons.1 h with rfl | h
  ·omega
  ·have := ih h; omega
theorem flat_take (ps : List Bs) (i : Nat) : (ps.take i).flatten.length ≤ ps.flatten.length := by
 have h := congrArg (fun x : List Bs => x.flatten.length) (List.take_append_drop i ps)
 simp only [List.flatten_append, List.length_append] at h
 omega
set_option maxRecDepth 100000 in
set_option maxHeartbeats 2000000 in
theorem line_any {b : Nat} {ps : List Bs} (h : Pt w B g d l) (hp : Parts w b ps) (hbg : b ≠ g) (hps : ps.length ≤ 100) (hl : (l ++ lineB d ps).length ≤ 1000000000) :
  Calls Tryz.prog 156 #[.pointer (some ⟨g, 0, none⟩), .slice (some ⟨b, 0, none⟩) ps.length ps.length] w (PtGot B g d (l ++ lineB d ps) (.tuple #[]) w) := by
 have hl2 : l.length + (d + ps.flatten.length + 1) ≤ 1000000000 := by
  have := hl
  unfold lineB at this
  simp only [List.length_append, List.length_replicate, List.length_cons, List.length_nil] at this
  omega
 have c2 : w.cell? ⟨g, 2, none⟩ = some (.int .i64 (d : Int)) := by
  obtain ⟨a, v, _, h2, _⟩ := h.blk
  exact cell_of_row w g 2 _ _ _ h2
 have H := Lib.hid h
 have HP := Lib.hid hp
 have HL := Lib.hid hl2
 have hd : d ≤ 1000000000 := by omega
 clear h hp hl hl2
 go_enter Tryz.func156, Tryz.ntmps156
 go_wp2_with fail
 go_loopg [10, 11, 12, 13, 14, 15, 16] d (fun gk v _ _ _ _ _ _ wr => Ln1 w B g d b l ps gk v wr)
 case atStart => exact ⟨0, rfl, by omega, by omega, by simpa using H, Pk.refl g B w, HP⟩
 case round =>
  obtain ⟨i, rfl, hi, hgk, HPt, HPk, HPa⟩ := hrel
  by_cases hid : i = d
  ·subst hid
   have hlt : ¬ ((i : Int) < (i : Int)) := by omega
   clear H HP c2
   go_wp2_with fail
   go_loopg [5, 19, 20, 21, 22, 23, 24, 25, 26, 27, 28] ps.length (fun gk _ v _ _ _ _ _ _ _ _ _ wr => Ln2 w B g i b (l ++ List.replicate i 9) ps gk v wr)
   case atStart => exact ⟨0, rfl, by omega, by omega, by simpa using HPt, HPk, HPa⟩
   case round =>
    clear HPt HPk HPa
    obtain ⟨k, rfl, hk, hgk2, HPt, HPk, HPa⟩ := hrel
    have hfl := Lib.hid (flat_take ps k)
    by_cases hkd : k = ps.length
    ·have hlt2 : ¬ ((k : Int) < (ps.length : Int)) := by omega
     have e1 := Lib.hid (show (ps.take k).flatten = ps.flatten by rw [hkd, List.take_length])
     clear hkd
     go_wp2_with fail
     refine (writeByte_any HPt.out (by have := HL.out; have := hfl.out; simp only [List.length_append, List.length_replicate]; omega) 10).mono ?_
     rintro e w3 ⟨rfl, P3, K3⟩
     have P3' := Lib.hid P3
     have K3' := Lib.hid (HPk.out.trans K3)
     clear P3 K3
     go_wp2_with fail
     refine bodyPost_end (v := .tuple #[]) (by simp [results, Tryz.results156, go_sem]) rfl ⟨rfl, ?_, K3'.out⟩
     have := P3'.out
     rw [e1.out] at this
     unfold lineB
     rw [← List.append_assoc, ← List.append_assoc]
     exact this
    ·have hlt2 : (k : Int) < (ps.length : Int) := by omega
     have hkl : k < ps.length := by omega
     obtain ⟨x, hx⟩ : ∃ x, ps[k]? = some x := ⟨ps[k], List.getElem?_eq_getElem hkl⟩
     have ck := HPa.out.cell hx
     have hxl := Lib.hid (flat_le (List.mem_of_getElem? hx))
     have HX := Lib.hid hx
     clear hx hkd
     go_wp2_with fail
     refine (writeString_any HPt.out (by have := HL.out; have := hfl.out; simp only [List.length_append, List.length_replicate]; omega) x (by have := HL.out; have := hxl.out; omega)).mono ?_
     rintro e w3 ⟨rfl, P3, K3⟩
     have P3' := Lib.hid P3
     have K3' := Lib.hid (HPk.out.trans K3)
     have A3' := Lib.hid (HPa.out.pk K3 hbg)
     clear P3 K3 ck
     go_wp2_with fail
     go_roundg (gk - 1)
     case rel =>
      refine ⟨k + 1, by simp, by omega, by omega, ?_, K3', A3'⟩
      have := P3'.out
      unfold Hid
      rw [List.take_add_one, HX.out]
      simpa [List.append_assoc] using this
     case measure => omega
  ·have hlt : (i : Int) < (d : Int) := by omega
   clear H HP
   go_wp2_with fail
   refine (writeByte_any HPt.out (by have := HL.out; simp only [List.length_append, List.length_replicate]; omega) 9).mono ?_
   rintro e w3 ⟨rfl, P3, K3⟩
   have P3' := Lib.hid P3
   have K3' := Lib.hid (HPk.out.trans K3)
   have A3' := Lib.hid (HPa.out.pk K3 hbg)
   clear P3 K3
   go_wp2_with fail
   go_roundg (gk - 1)
   case rel =>
    refine ⟨i + 1, by simp, by omega, by omega, ?_, K3', A3'⟩
    have := P3'.out
    unfold Hid
    rw [List.replicate_succ', ← List.append_assoc]
    exact this
   case measure => omega
end
/- string(r) of a byte's number below 128; texts put together. -/
open Go.RowKit

theorem encode_small (r : Nat) (h : r < 128) : Utf8.encode (r : Int) = ofL [UInt8.ofNat r] := by
 have hv : Utf8.valid (r : Int) = true := by simp [Utf8.valid]; omega
 unfold Utf8.encode
 simp only [hv, if_true, Int.toNat_natCast]
 rw [if_pos (by omega)]
 rfl
theorem rune_str (r : Nat) (h : r < 128) (w : World) : (convert 21 9 (.int .i32 (r : Int))).run Tryz.prog w = .ok (.string (ofL [UInt8.ofNat r])) w := by
 rw [← encode_small r h]
 simp [convert, run_underlying Tryz.underlying21, run_underlying Tryz.underlying9, Conv.intToString, go_sem]
theorem ofL_append (a b : List UInt8) : ofL a ++ ofL b = ofL (a ++ b) := by
 apply ByteArray.ext
 simp [ofL, ByteArray.data_append]
/- Layer 10: the contracts of showAdded, showTerm, listed, within, isElse. -/
open Go.RowKit

section
variable {w w' : World}
theorem below_grow (w : World) (os : Array Obj) : Below w.heap.size w (Go.Sort.grow w os) :=
 ⟨rfl, rfl, rfl, by simp [Go.Sort.grow], fun k hk => by simp only [Go.Sort.grow]; rw [Array.getElem?_append_left hk]⟩
theorem itoa_any (h : Tb w) (n : Int) (h0 : -1000000000 ≤ n) (h1 : n ≤ 1000000000) : Calls Tryz.prog 235 #[.int .i64 n] w (Tells w (.string (ofL (itoaB n)))) := by
 refine (Go.Proofs.YtekpefcggikcbaaGreatDoor.Tryz.strconv_Itoa n (by omega) (by omega) w h).mono ?_
 rintro e w' ⟨rfl, k, os, rfl⟩
 exact ⟨rfl, below_drewN (Below.refl _ w) k |>.trans (below_grow (w.drewN k) os)⟩
theorem itoa_len (n : Int) (h0 : -1000000000 ≤ n) (h1 : n ≤ 1000000000) : (itoaB n).length ≤ 100 := by
 exact Nat.le_trans (Go.Lib.itoa_length_le n (by omega) (by omega)) (by omega)
theorem ofL_app3 (a b c : Bs) : ofL a ++ ofL b ++ ofL c = ofL (a ++ b ++ c) := by rw [ofL_append, ofL_append]
theorem ofL_app4 (a b c d : Bs) : ofL a ++ ofL b ++ ofL c ++ ofL d = ofL (a ++ b ++ c ++ d) := by rw [ofL_append, ofL_append, ofL_append]
theorem ofL_app5 (a b c d e : Bs) : ofL a ++ ofL b ++ ofL c ++ ofL d ++ ofL e = ofL (a ++ b ++ c ++ d ++ e) := by rw [ofL_append, ofL_append, ofL_append, ofL_append]
theorem eS {x : ByteArray} {l : Bs} (h : x = ofL l) : Ending.returned (.string x) = Ending.returned (.string (ofL l)) := by rw [h]
theorem showAdded_len (n : Int) (h0 : -999999 ≤ n) (h1 : n ≤ 999999) : (showAddedB n).length ≤ 103 := by
 unfold showAddedB
 split
 ·have := itoa_len n (by omega) (by omega); simp; omega
 ·split
  ·have := itoa_len (-n) (by omega) (by omega); simp; omega
  ·simp
def SmN (n : Int) : Prop := -999999 ≤ n ∧ n ≤ 999999
set_option maxHeartbeats 1000000 in
theorem showAdded_any (h : Tb w) (n : Int) (hn : SmN n) : Calls Tryz.prog 251 #[.int .i64 n] w (Tells w (.string (ofL (showAddedB n)))) := by
 obtain ⟨h0, h1⟩ := hn
 have H := Lib.hid h
 clear h
 by_cases hp : 0 < n
 ·have HS := Lib.hid (show showAddedB n = [32, 43, 32] ++ itoaB n by unfold showAddedB; rw [if_pos hp])
  go_enter Tryz.func251, Tryz.ntmps251
  go_wp2_with fail
  refine (itoa_any H.out n (by omega) (by omega)).mono ?_; rintro e w1 ⟨rfl, hb⟩
  have HB := Lib.hid hb
  have hz : (ofL (itoaB n)).size ≤ 100 := by rw [ofL_size]; exact itoa_len n (by omega) (by omega)
  clear hb
  go_wp2_with fail
  go_ret
  exact ⟨by rw [HS.out, ← ofL_append]; rfl, HB.out⟩
 ·by_cases hq : n < 0
  ·have HS := Lib.hid (show showAddedB n = [32, 45, 32] ++ itoaB (-n) by unfold showAddedB; rw [if_neg hp, if_pos hq])
   have hw : wrap64 (-n) = -n := by unfold wrap64; omega
   go_enter Tryz.func251, Tryz.ntmps251
   go_wp2_with fail
   refine (itoa_any H.out (-n) (by omega) (by omega)).mono ?_; rintro e w1 ⟨rfl, hb⟩
   have HB := Lib.hid hb
   have hz : (ofL (itoaB (-n))).size ≤ 100 := by rw [ofL_size]; exact itoa_len (-n) (by omega) (by omega)
   clear hb
   go_wp2_with fail
   go_ret
   exact ⟨by rw [HS.out, ← ofL_append]; rfl, HB.out⟩
  ·have HS := Lib.hid (show showAddedB n = [] by unfold showAddedB; rw [if_neg hp, if_neg hq])
   go_enter Tryz.func251, Tryz.ntmps251
   go_wp2_with fail
   go_ret
   exact ⟨by rw [HS.out]; rfl, Below.refl _ _⟩
set_option maxHeartbeats 1000000 in
theorem listed_any {S : Nat → Prop} {v : Value} (l : List Bs) (h : Lies w S v (dL l)) (hn : l.length ≤ 10000) (hl : (joinB [44, 32] l).length ≤ 100000000) : Calls Tryz.prog 157 #[v] w (Tells w (.string (ofL (listedB l)))) := by
 have HJ := Lib.hid (join_any l [44, 32] h hn hl)
 obtain ⟨A, n, c, rfl, -⟩ := Lies.slc (show Lies w S v (.s 1 _) from h)
 have HS := Lib.hid (show listedB l = [40] ++ joinB [44, 32] l ++ [41] from rfl)
 rw [HS.out]
 obtain ⟨y, hy⟩ : ∃ y, joinB [44, 32] l = y := ⟨_, rfl⟩
 rw [hy] at HJ hl ⊢
 have hz : (ofL y).size ≤ 100000000 := by rw [ofL_size]; exact hl
 clear h hl hy HS
 go_enter Tryz.func157, Tryz.ntmps157
 go_wp2_with fail
 refine HJ.out.mono ?_; rintro e w1 ⟨rfl, hb⟩
 have HB := Lib.hid hb
 clear hb
 go_wp2_with fail
 go_ret
 exact ⟨eS (ofL_app3 [40] y [41]), HB.out⟩
/-- A term that is small enough. -/
def SmTm (t : Tm) : Prop := t.m.length ≤ 1000 ∧ t.f.length ≤ 1000 ∧ SmN t.n
theorem showTerm_len (t : Tm) (h : SmTm t) : (showTermB t).length ≤ 2200 := by
 obtain ⟨h1, h2, h3, h4⟩ := h
 have h5 := showAdded_len t.n h3 h4
 have h6 := itoa_len t.n (by omega) (by omega)
 unfold showTermB showFieldOf
 split
 ·omega
 ·split <;> split <;> simp <;> omega
set_option maxRecDepth 20000 in
set_option maxHeartbeats 4000000 in
theorem showTerm_any (h : Tb w) (t : Tm) (ht : SmTm t) : Calls Tryz.prog 236 #[vT t] w (Tells w (.string (ofL (showTermB t)))) := by
 obtain ⟨k, m, f, n⟩ := t
 obtain ⟨hml, hfl, hn⟩ := ht
 have hml' : m.length ≤ 1000 := hml
 have hfl' : f.length ≤ 1000 := hfl
 have hN := Lib.hid (show SmN n from hn)
 have hzm : (ofL m).size ≤ 1000 := by rw [ofL_size]; exact hml'
 have hzf : (ofL f).size ≤ 1000 := by rw [ofL_size]; exact hfl'
 have B1 := Lib.hid ((Below.refl _ w).alloc (Nat.le_refl _) (.cells #[.int .i64 k, .string (ofL m), .string (ofL f), .int .i64 n] 98))
 have H := Lib.hid (h.below B1.out)
 have hza := Lib.hid (show (ofL (showAddedB n)).size ≤ 103 by rw [ofL_size]; exact showAdded_len n hn.1 hn.2)
 unfold vT
 have hm : (ofL m).toList = m := ofL_toList m
 clear h hn hml hfl hml' hfl'
 by_cases h1 : k = 1
 ·have e1 : (k == 1) = true := by simpa using h1
  have HS := Lib.hid (show showTermB ⟨k, m, f, n⟩ = itoaB n by unfold showTermB; rw [if_pos h1])
  have hb1 := hN.out.1
  have hb2 := hN.out.2
  clear h1
  go_enter Tryz.func236, Tryz.ntmps236
  go_wp2_with fail
  refine (itoa_any H.out n (by omega) (by omega)).mono ?_; rintro e w1 ⟨rfl, hb⟩
  have HB := Lib.hid (B1.out.trans (hb.mono (by simp)))
  clear hb
  go_wp2_with fail
  go_ret
  exact ⟨by rw [HS.out]; rfl, HB.out⟩
 ·have e1 : (k == 1) = false := by simpa using h1
  by_cases h3 : k = 3
  ·have e3 : (k == 3) = true := by simpa using h3
   by_cases hme : m = []
   ·skip
    have HS := Lib.hid (show showTermB ⟨k, m, f, n⟩ = [108, 101, 110, 40] ++ f ++ [41] ++ showAddedB n by unfold showTermB showFieldOf; rw [if_neg h1, if_pos h3, if_pos hme])
    have e0 : (!m.isEmpty) = false := by simp [hme]
    clear h1 h3 hme
    go_enter Tryz.func236, Tryz.ntmps236
    go_wp2_with fail
    refine (showAdded_any H.out n hN.out).mono ?_; rintro e w1 ⟨rfl, hb⟩
    have HB := Lib.hid (B1.out.trans (hb.mono (by simp)))
    have hz := hza.out
    clear hb
    go_wp2_with fail
    go_ret
    exact ⟨by rw [HS.out]; exact eS (ofL_app4 [108, 101, 110, 40] f [41] (showAddedB n)), HB.out⟩
   ·skip
    have HS := Lib.hid (show showTermB ⟨k, m, f, n⟩ = [108, 101, 110, 40] ++ (m ++ [46] ++ f) ++ [41] ++ showAddedB n by unfold showTermB showFieldOf; rw [if_neg h1, if_pos h3, if_neg hme])
    have e0 : (!m.isEmpty) = true := by simp [hme]
    clear h1 h3 hme
    go_enter Tryz.func236, Tryz.ntmps236
    go_wp2_with fail
    refine (showAdded_any H.out n hN.out).mono ?_; rintro e w1 ⟨rfl, hb⟩
    have HB := Lib.hid (B1.out.trans (hb.mono (by simp)))
    have hz := hza.out
    clear hb
    go_wp2_with fail
    go_ret
    exact ⟨by rw [HS.out]; exact eS (show ofL [108, 101, 110, 40] ++ (ofL m ++ ofL [46] ++ ofL f) ++ ofL [41] ++ ofL (showAddedB n) = _ by rw [ofL_app3 m, ofL_app4]), HB.out⟩
  ·have e3 : (k == 3) = false := by simpa using h3
   by_cases hme : m = []
   ·skip
    have HS := Lib.hid (show showTermB ⟨k, m, f, n⟩ = f ++ showAddedB n by unfold showTermB showFieldOf; rw [if_neg h1, if_neg h3, if_pos hme])
    have e0 : (!m.isEmpty) = false := by simp [hme]
    clear h1 h3 hme
    go_enter Tryz.func236, Tryz.ntmps236
    go_wp2_with fail
    refine (showAdded_any H.out n hN.out).mono ?_; rintro e w1 ⟨rfl, hb⟩
    have HB := Lib.hid (B1.out.trans (hb.mono (by simp)))
    have hz := hza.out
    clear hb
    go_wp2_with fail
    go_ret
    exact ⟨by rw [HS.out]; exact eS (ofL_append f (showAddedB n)), HB.out⟩
   ·skip
    have HS := Lib.hid (show showTermB ⟨k, m, f, n⟩ = (m ++ [46] ++ f) ++ showAddedB n by unfold showTermB showFieldOf; rw [if_neg h1, if_neg h3, if_neg hme])
    have e0 : (!m.isEmpty) = true := by simp [hme]
    clear h1 h3 hme
    go_enter Tryz.func236, Tryz.ntmps236
    go_wp2_with fail
    refine (showAdded_any H.out n hN.out).mono ?_; rintro e w1 ⟨rfl, hb⟩
    have HB := Lib.hid (B1.out.trans (hb.mono (by simp)))
    have hz := hza.out
    clear hb
    go_wp2_with fail
    go_ret
    exact ⟨by rw [HS.out]; exact eS (ofL_app4 m [46] f (showAddedB n)), HB.out⟩
end
/- A law for a region whose order is drawn: each operation keeps to a word of its own (Phi), whatever came up before it, as long as what it waits for has. No order is branched over. -/
open Go.RowKit

def slotOf (a : Act) (d : Option Tmp) : Value := match d with | some t => a.tmps.getD t undef | none => undef
/-- The frame behind all operations: the i-th has left vs i. -/
def putAll : List Oper → Nat → (Nat → Value) → Act → Act
 | [], _, _, a => a
 | o :: r, k, vs, a => putAll r (k + 1) vs (a.put o.dst (vs k))
/-- Closed: every operation has a temporary of its own, and waits for earlier ones alone. -/
def regOk (ops : List Oper) (n : Nat) : Bool :=
 ops.all (fun o => o.dst.any (fun t => decide (t < n))) && decide (ops.map (·.dst)).Nodup && ops.zipIdx.all (fun p => p.1.after.all fun e => decide (e.on < p.2))

section
variable {P : Program} {ops : Array Oper} {Q : Exit → Act → World → Prop}

structure RegBase (ops : Array Oper) (a0 a : Act) (w0 w : World) : Prop where
 defers : a.defers = a0.defers
 size : a.tmps.size = a0.tmps.size
 same : ∀ t, (∀ (i : Nat) o, ops[i]? = some o → o.dst ≠ some t) → a.tmps[t]? = a0.tmps[t]?
 ext : Below w0.heap.size w0 w

/-- One operation does as its word says, in whatever frame and world that the region may have brought about before it. -/
def StepOk (P : Program) (ops : Array Oper) (Q : Exit → Act → World → Prop) (Phi : Nat → Value → World → Prop) (i : Nat) (o : Oper) (a : Act) (w : World) : Prop :=
 if Region.wanted o (yielded ops a.tmps) then o.wp P a w (fun a' w' => ∃ v, a' = a.put o.dst v ∧ Below w.heap.size w w' ∧ Phi i v w') Q else Phi i undef w

structure RegInv (ops : Array Oper) (Phi : Nat → Value → World → Prop) (a0 : Act) (w0 : World) (L : Array Bool) (a : Act) (w : World) : Prop where
 base : RegBase ops a0 a w0 w
 held : ∀ (i : Nat) o, ops[i]? = some o → L.getD i false = true → Phi i (slotOf a o.dst) w

theorem regOk_dst {n : Nat} (h : regOk ops.toList n = true) {i : Nat} {o : Oper} (ho : ops[i]? = some o) : ∃ t, o.dst = some t ∧ t < n := by
 simp only [regOk, Bool.and_eq_true, List.all_eq_true] at h
 have h1 := h.1.1 o (List.mem_of_getElem? (by simpa using ho))
 cases hd : o.dst with
 | none => rw [hd] at h1; simp at h1
 | some t => rw [hd] at h1; exact ⟨t, rfl, by simpa using h1⟩
theorem regOk_inj {n : Nat} (h : regOk ops.toList n = true) {i j : Nat} {o oj : Oper} (ho : ops[i]? = some o) (hj : ops[j]? = some oj) (he : o.dst = oj.dst) : i = j := by
 simp only [regOk, Bool.and_eq_true, decide_eq_true_eq] at h
 have hi' : (ops.toList.map (·.dst))[i]? = some o.dst := by rw [List.getElem?_map]; simp [ho]
 have hj' : (ops.toList.map (·.dst))[j]? = some o.dst := by rw [List.getElem?_map, he]; simp [hj]
 have hl : i < (ops.toList.map (·.dst)).length := (List.getElem?_eq_some_iff.1 hi').1
 exact (List.getElem?_inj hl h.1.2).1 (hi'.trans hj'.symm)
theorem regOk_edge {n : Nat} (h : regOk ops.toList n = true) {i : Nat} {o : Oper} (ho : ops[i]? = some o) {e : Edge} (he : e ∈ o.after) : e.on < i := by
 simp only [regOk, Bool.and_eq_true, List.all_eq_true] at h
 have h1 := h.2 (o, i) (List.mem_iff_getElem?.2 ⟨i, by rw [List.getElem?_zipIdx]; simp [ho]⟩)
 have h2 := Array.all_eq_true'.1 h1 e he
 simpa using h2

theorem slot_put_self {a : Act} {t : Tmp} {v : Value} (h : t < a.tmps.size) : slotOf (a.put (some t) v) (some t) = v := by
 simp [slotOf, Act.put, h]
theorem slot_put_other {a : Act} {t s : Tmp} {v : Value} (h : t ≠ s) : slotOf (a.put (some t) v) (some s) = slotOf a (some s) := by
 simp [slotOf, Act.put, h]

theorem mem_ready {L : Array Bool} {i : Nat} : i ∈ Region.ready .any ops L ↔ i < ops.size ∧ L.getD i true = false ∧ ∃ o, ops[i]? = some o ∧ ∀ e ∈ o.after, Region.binds .any e = true → L.getD e.on false = true := by
 unfold Region.ready
 rw [List.mem_filter, List.mem_range]
 constructor
 ·rintro ⟨h1, h2⟩
  rw [Bool.and_eq_true] at h2
  refine ⟨h1, by simpa using h2.1, ?_⟩
  cases ho : ops[i]? with
  | none => rw [ho] at h2; simp at h2
  | some o =>
   rw [ho] at h2
   refine ⟨o, rfl, fun e he hb => ?_⟩
   have h3 := h2.2
   simp only [Option.map_some, Option.getD_some] at h3
   have := Array.all_eq_true'.1 h3 e he
   rw [hb] at this
   simpa using this
 ·rintro ⟨h1, h2, o, ho, h3⟩
  refine ⟨h1, ?_⟩
  rw [Bool.and_eq_true]
  refine ⟨by simp [h2], ?_⟩
  rw [ho]
  simp only [Option.map_some, Option.getD_some]
  refine Array.all_eq_true'.2 fun e he => ?_
  cases hb : Region.binds .any e with
  | false => simp
  | true => simp [h3 e he hb]

theorem regInv_any {n : Nat} {Phi : Nat → Value → World → Prop} {a0 : Act} {w0 : World} (hok : regOk ops.toList n = true) (hn : a0.tmps.size = n)
  (hst : ∀ i v w w', Phi i v w → Below w.heap.size w w' → Phi i v w')
  (hop : ∀ (i : Nat) o, ops[i]? = some o → ∀ a w, RegBase ops a0 a w0 w → (∀ e ∈ o.after, Region.binds .any e = true → ∀ oj, ops[e.on]? = some oj → Phi e.on (slotOf a oj.dst) w) → StepOk P ops Q Phi i o a w)
  (hfin : ∀ a w, RegBase ops a0 a w0 w → (∀ (i : Nat) o, ops[i]? = some o → Phi i (slotOf a o.dst) w) → Q .normal a w) :
  ∀ (fuel : Nat) (L : Array Bool) (a : Act) (w : World), L.size = ops.size → L.toList.count false = fuel → RegInv ops Phi a0 w0 L a w → wpAny P .any ops Q fuel L a w := by
 have fin : ∀ (L : Array Bool) (a : Act) (w : World), L.size = ops.size → Region.ready .any ops L = [] → RegInv ops Phi a0 w0 L a w → Q .normal a w := by
  intro L a w hL hr hI
  have all : ∀ i, i < ops.size → L.getD i false = true := by
   intro i
   induction i using Nat.strongRecOn with
   | ind i ih =>
    intro hi
    cases hb : L.getD i false with
    | true => rfl
    | false =>
     exfalso
     have ho : ops[i]? = some ops[i] := Array.getElem?_eq_getElem hi
     have : i ∈ Region.ready .any ops L := by
      refine mem_ready.2 ⟨hi, ?_, ops[i], ho, fun e he _ => ?_⟩
      ·simp only [Array.getD_eq_getD_getElem?] at hb ⊢
       rw [Array.getElem?_eq_getElem (by omega)] at hb ⊢
       simpa using hb
      ·have := regOk_edge hok ho he
       exact ih e.on this (by omega)
     rw [hr] at this
     cases this
  exact hfin a w hI.base fun i o ho => hI.held i o ho (all i (Array.getElem?_eq_some_iff.1 ho).1)
 intro fuel
 induction fuel with
 | zero =>
  intro L a w hL hc hI
  have hr : Region.ready .any ops L = [] := by
   rw [List.eq_nil_iff_forall_not_mem]
   intro i hi
   obtain ⟨h1, h2, _⟩ := mem_ready.1 hi
   rw [List.count_eq_zero] at hc
   apply hc
   rw [Array.getD_eq_getD_getElem?, Array.getElem?_eq_getElem (by omega)] at h2
   simp only [Option.getD_some] at h2
   rw [← h2]
   exact Array.mem_toList_iff.2 (Array.getElem_mem _)
  exact ⟨hr, fin L a w hL hr hI⟩
 | succ fuel ih =>
  intro L a w hL hc hI
  refine ⟨fun hr => fin L a w hL hr hI, fun i hi => ?_⟩
  obtain ⟨h1, h2, o, ho, h3⟩ := mem_ready.1 hi
  obtain ⟨t, ht, htn⟩ := regOk_dst hok ho
  have hts : t < a.tmps.size := by rw [hI.base.size, hn]; exact htn
  have hstep := hop i o ho a w hI.base fun e he hb oj hj => hI.held e.on oj hj (h3 e he hb)
  have next : ∀ v w', Below w.heap.size w w' → Phi i v w' → wpAny P .any ops Q fuel (L.setIfInBounds i true) (a.put o.dst v) w' := by
   intro v w' hb hv
   refine ih _ _ _ (by simpa using hL) ?_ ⟨⟨?_, ?_, ?_, ?_⟩, ?_⟩
   ·have hLi : i < L.size := by omega
    have hfalse : L[i] = false := by
     rw [Array.getD_eq_getD_getElem?, Array.getElem?_eq_getElem hLi] at h2
     simpa using h2
    rw [Array.toList_setIfInBounds]
    have e1 : L.toList = L.toList.take i ++ L[i] :: L.toList.drop (i + 1) := by
     rw [← Array.getElem_toList hLi, ← List.drop_eq_getElem_cons, List.take_append_drop]
    have e2 : L.toList.set i true = L.toList.take i ++ true :: L.toList.drop (i + 1) := by
     rw [List.set_eq_take_append_cons_drop, if_pos (by simpa using hLi)]
    rw [e2, List.count_append, List.count_cons]
    rw [e1, List.count_append, List.count_cons, hfalse] at hc
    simp at hc ⊢
    omega
   ·rw [ht]; exact hI.base.defers
   ·rw [ht]; simp [Act.put, hI.base.size]
   ·intro s hs
    have hne : t ≠ s := fun h => hs i o ho (by rw [ht, h])
    rw [ht]
    simp only [Act.put, Array.getElem?_setIfInBounds, hne, if_false]
    exact hI.base.same s hs
   ·exact hI.base.ext.trans (hb.mono hI.base.ext.size)
   ·intro j oj hj hl
    by_cases hij : i = j
    ·subst hij
     rw [ho] at hj
     cases hj
     rw [ht, slot_put_self hts]
     exact hv
    ·obtain ⟨s, hs, _⟩ := regOk_dst hok hj
     have hne : t ≠ s := fun h => hij (regOk_inj hok ho hj (by rw [ht, hs, h]))
     rw [ht, hs, slot_put_other hne, ← hs]
     refine hst _ _ _ _ (hI.held j oj hj ?_) hb
     rw [Array.getD_eq_getD_getElem?, Array.getElem?_setIfInBounds, if_neg hij] at hl
     rw [Array.getD_eq_getD_getElem?]
     exact hl
  unfold wpOp
  rw [ho]
  simp only []
  unfold StepOk at hstep
  split
  ·rename_i hw
   rw [if_pos hw] at hstep
   refine .inl (Oper.wp_mono ?_ hstep)
   rintro a' w' ⟨v, rfl, hb, hv⟩
   exact next v w' hb hv
  ·rename_i hw
   rw [if_neg hw] at hstep
   exact next undef w (Below.refl _ _) hstep

theorem putAll_other (t : Tmp) : ∀ (l : List Oper) (k : Nat) (vs : Nat → Value) (b : Act), (∀ o ∈ l, o.dst ≠ some t) → (putAll l k vs b).tmps[t]? = b.tmps[t]? := by
 intro l
 induction l with
 | nil => intro k vs b _; rfl
 | cons o l ih =>
  intro k vs b h
  rw [putAll, ih _ _ _ fun o' ho' => h o' (by simp [ho'])]
  have h1 := h o (by simp)
  cases hd : o.dst with
  | none => rfl
  | some s =>
   have : s ≠ t := fun e => h1 (by rw [hd, e])
   simp [Act.put, this]
theorem putAll_frame : ∀ (l : List Oper) (k : Nat) (vs : Nat → Value) (b : Act), (putAll l k vs b).defers = b.defers ∧ (putAll l k vs b).tmps.size = b.tmps.size := by
 intro l
 induction l with
 | nil => intro k vs b; exact ⟨rfl, rfl⟩
 | cons o l ih =>
  intro k vs b
  rw [putAll]
  obtain ⟨h1, h2⟩ := ih (k + 1) vs (b.put o.dst (vs k))
  refine ⟨h1.trans ?_, h2.trans ?_⟩ <;> cases o.dst <;> simp [Act.put]
theorem putAll_at (t : Tmp) : ∀ (l : List Oper) (k : Nat) (vs : Nat → Value) (b : Act) (j : Nat) (o : Oper), (l.map (·.dst)).Nodup → l[j]? = some o → o.dst = some t → t < b.tmps.size → (putAll l k vs b).tmps[t]? = some (vs (k + j)) := by
 intro l
 induction l with
 | nil => intro k vs b j o _ h; simp at h
 | cons o' l ih =>
  intro k vs b j o hnd hj ht hlt
  rw [List.map_cons, List.nodup_cons] at hnd
  cases j with
  | zero =>
   simp only [List.getElem?_cons_zero, Option.some.injEq] at hj
   subst hj
   rw [putAll, putAll_other t]
   ·rw [ht]; simp [Act.put, hlt]
   ·intro x hx hxt
    exact hnd.1 (List.mem_map.2 ⟨x, hx, by rw [hxt, ht]⟩)
  | succ j =>
   rw [putAll, ih (k + 1) vs _ j o hnd.2 (by simpa using hj) ht (by cases o'.dst <;> simpa [Act.put] using hlt)]
   congr 2; omega

/-- The law. The frame behind the region is written out as 'putAll'. -/
theorem region_phi {id : Nat} {n : Nat} {a0 : Act} {w0 : World} (Phi : Nat → Value → World → Prop) (hm : P.follows .mixedOrders = true) (hok : regOk ops.toList n = true) (hn : a0.tmps.size = n)
  (hst : ∀ i v w w', Phi i v w → Below w.heap.size w w' → Phi i v w')
  (hop : ∀ (i : Nat) o, ops[i]? = some o → ∀ a w, RegBase ops a0 a w0 w → (∀ e ∈ o.after, Region.binds .any e = true → ∀ oj, ops[e.on]? = some oj → Phi e.on (slotOf a oj.dst) w) → StepOk P ops Q Phi i o a w)
  (hfin : ∀ (vs : Nat → Value) w, Below w0.heap.size w0 w → (∀ i, i < ops.size → Phi i (vs i) w) → Q .normal (putAll ops.toList 0 vs a0) w) :
  (Code.region id ops true).wp P Q a0 w0 := by
 refine wp_region_any hm ?_
 refine regInv_any hok hn hst hop ?_ ops.size _ a0 _ (by simp) (by simp) ⟨⟨rfl, rfl, fun _ _ => rfl, (Below.refl _ _).drew⟩, ?_⟩
 ·intro a w hb hv
  have key := hfin (fun i => slotOf a ((ops[i]?).bind (·.dst))) w hb.ext fun i hi => by
   have ho : ops[i]? = some ops[i] := Array.getElem?_eq_getElem hi
   have := hv i _ ho
   rw [ho]; exact this
  have hnd : (ops.toList.map (·.dst)).Nodup := by
   have := hok
   simp only [regOk, Bool.and_eq_true, decide_eq_true_eq] at this
   exact this.1.2
  have e : a = putAll ops.toList 0 (fun i => slotOf a ((ops[i]?).bind (·.dst))) a0 := by
   obtain ⟨f1, f2⟩ := putAll_frame ops.toList 0 (fun i => slotOf a ((ops[i]?).bind (·.dst))) a0
   have ht : a.tmps = (putAll ops.toList 0 (fun i => slotOf a ((ops[i]?).bind (·.dst))) a0).tmps := by
    apply Array.ext_getElem?
    intro t
    by_cases h : ∃ (i : Nat) (o : Oper), ops[i]? = some o ∧ o.dst = some t
    ·obtain ⟨i, o, ho, hot⟩ := h
     have htn : t < a0.tmps.size := by
      obtain ⟨t', h1, h2⟩ := regOk_dst hok ho
      rw [hot] at h1; cases h1
      rw [hn]; exact h2
     rw [putAll_at t ops.toList 0 _ a0 i o hnd (by simpa using ho) hot htn]
     simp only [Nat.zero_add, ho, Option.bind_some, hot, slotOf]
     rw [Array.getD_eq_getD_getElem?, Array.getElem?_eq_getElem (by rw [hb.size]; exact htn)]
     rfl
    ·rw [putAll_other t]
     ·exact hb.same t fun i o ho hot => h ⟨i, o, ho, hot⟩
     ·intro o ho hot
      obtain ⟨i, hi⟩ := List.mem_iff_getElem?.1 ho
      exact h ⟨i, o, by simpa using hi, hot⟩
   cases a with
   | mk tm df =>
    have hd := hb.defers
    generalize putAll ops.toList 0 _ a0 = z at *
    cases z with
    | mk tz dz =>
     simp only at ht f1 hd
     rw [ht, hd, ← f1]
  rw [e]
  exact key
 ·intro i o ho hl
  rw [Array.getD_eq_getD_getElem?, Array.getElem?_replicate] at hl
  split at hl <;> simp at hl

/-- A word for each operation of a list. -/
def AllOps (F : Nat → Oper → Prop) : Nat → List Oper → Prop
 | _, [] => True
 | k, o :: l => F k o ∧ AllOps F (k + 1) l
theorem allOps_at {F : Nat → Oper → Prop} : ∀ (l : List Oper) (k i : Nat) (o : Oper), AllOps F k l → l[i]? = some o → F (k + i) o
 | [], _, _, _, _, h => by simp at h
 | o' :: l, k, 0, o, hF, h => by simp at h; subst h; exact hF.1
 | o' :: l, k, i + 1, o, hF, h => by
  have := allOps_at l (k + 1) i o hF.2 (by simpa using h)
  rwa [show k + 1 + i = k + (i + 1) by omega] at this
theorem allOps_spec {F : Nat → Oper → Prop} (h : AllOps F 0 ops.toList) : ∀ (i : Nat) o, ops[i]? = some o → F i o := fun i o ho => by
 have := allOps_at ops.toList 0 i o h (by simpa using ho)
 rwa [Nat.zero_add] at this

theorem RegBase.at {a0 a : Act} {w0 w : World} (h : RegBase ops a0 a w0 w) (t : Tmp) (hc : (ops.toList.all fun o => decide (o.dst ≠ some t)) = true) : a.tmps[t]?.getD undef = a0.tmps[t]?.getD undef := by
 rw [h.same t]
 intro i o ho
 have := List.all_eq_true.1 hc o (List.mem_of_getElem? (by simpa using ho))
 simpa using this
theorem slot_eq {a : Act} {t : Tmp} : slotOf a (some t) = a.tmps[t]?.getD undef := by simp [slotOf]
theorem bool_at {a : Act} {t : Tmp} {b : Bool} (h : a.tmps[t]?.getD undef = .bool b) : a.tmps[t]? = some (.bool b) := by
 cases hx : a.tmps[t]? with
 | none => rw [hx] at h; simp [undef] at h
 | some v => rw [hx] at h; simp at h; rw [h]
theorem step_on {Phi : Nat → Value → World → Prop} {i : Nat} {o : Oper} {a : Act} {w : World} (hw : Region.wanted o (yielded ops a.tmps) = true)
  (h : o.wp P a w (fun a' w' => ∃ v, a' = a.put o.dst v ∧ Below w.heap.size w w' ∧ Phi i v w') Q) : StepOk P ops Q Phi i o a w := by
 unfold StepOk; rw [if_pos hw]; exact h
theorem step_off {Phi : Nat → Value → World → Prop} {i : Nat} {o : Oper} {a : Act} {w : World} (hw : Region.wanted o (yielded ops a.tmps) = false)
  (h : Phi i undef w) : StepOk P ops Q Phi i o a w := by
 unfold StepOk; rw [hw]; exact h
/-- An operation that leaves a value and does nothing else. -/
theorem step_run {Phi : Nat → Value → World → Prop} {i : Nat} {o : Oper} {a : Act} {w : World} {v : Value} (hw : Region.wanted o (yielded ops a.tmps) = true)
  (hr : (execOp a.eval o).run P w = .ok (.value v) w) (h : Phi i v w) : StepOk P ops Q Phi i o a w :=
 step_on hw (by unfold Oper.wp; rw [hr]; exact ⟨v, rfl, Below.refl _ _, h⟩)
/-- A call of a Go function. -/
theorem step_call {Phi : Nat → Value → World → Prop} {i : Nat} {o : Oper} {a : Act} {w : World} {f : FuncId} {args : Array Value} (hw : Region.wanted o (yielded ops a.tmps) = true)
  (hr : (execOp a.eval o).run P w = .ok (.enter f args) w) (h : Calls P f args w fun e w' => ∃ v, e = .returned v ∧ Below w.heap.size w w' ∧ Phi i v w') : StepOk P ops Q Phi i o a w := by
 refine step_on hw ?_
 unfold Oper.wp
 rw [hr, Oper.upon_enter]
 refine h.mono ?_
 rintro e w' ⟨v, rfl, hb, hp⟩
 exact ⟨v, rfl, hb, hp⟩
end
end Go.Proofs.YtekpefcggikcbaaGreatDoor
