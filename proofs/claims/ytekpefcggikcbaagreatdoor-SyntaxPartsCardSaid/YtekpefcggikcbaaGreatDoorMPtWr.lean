/- Layer 10: WriteByte, WriteString and String of the printer. -/
import Derived.Test.YtekpefcggikcbaaGreatDoorMSynPr
import Derived.Lib.AppendStr
import Derived.Lib.UnsafeStr
import Derived.Test.YtekpefcggikcbaaGreatDoorMSyRl
import Derived.Deep.LoopGhost
import Derived.Test.YtekpefcggikcbaaGreatDoorMLexSp
import Derived.Lib.ItoaLen
import Derived.Test.YtekpefcggikcbaaGreatDoorMSynF
namespace Go.Proofs.YtekpefcggikcbaaGreatDoor
/- Layer 10: WriteByte, WriteString and String of the printer. -/
open Go.RowKit

section
variable {g B d : Nat} {l : Bs} {w w' : World}
def PtGot (B g d : Nat) (l : Bs) (v : Value) (w : World) (e : Ending) (w' : World) : Prop := e = .returned v ∧ Pt w' B g d l ∧ Pk g B w w'
theorem type_pt : (170 : Nat) ≠ 5 := by decide
set_option maxRecDepth 100000 in
set_option maxHeartbeats 1000000 in
theorem writeByte_any (h : Pt w B g d l) (hl : l.length ≤ 1000000000) (c : UInt8) : Calls Tryz.prog 121 #[.pointer (some ⟨g, 0, none⟩), .int .u8 (c.toNat : Int)] w (PtGot B g d (l ++ [c]) .nilIface w) := by
  have H := Lib.hid h
  have hgB := h.gB
  have hBw := h.hB
  have HTB := Lib.hid h.tb
  have hgt := h.gt
  clear h
  go_enter Tryz.func121, Tryz.ntmps121
  go_wp2_with fail
  refine (check_pt H.out).mono ?_
  rintro e w1 ⟨rfl, ⟨v, hbk, hown, hnl⟩, hk1, hs1⟩
  have c0 := cell_of_row w1 g 0 _ _ _ hbk
  have c1 : w1.cell? ⟨g, 1, none⟩ = some v := cell_of_row w1 g 1 _ _ _ hbk
  have HOW := Lib.hid hown
  have HBK := Lib.hid hbk
  have HK1 := Lib.hid hk1
  have hB1 : B ≤ w1.heap.size := by omega
  have hlen2 : Room2 l.length := by unfold Room2; omega
  have HS1 := Lib.hid hs1
  clear hown hbk hk1 H c0 hs1 hnl
  go_wp2_with (at_builtin; refine app1 rfl _ _ 41 rfl 5 (.int .u8 0) info_u8 Tryz.underlying41 rfl B _ _ _ rfl HOW.out _ rfl rfl hlen2 hB1 ?_; intro v' w2 hown2 hf2; have HO2 := Lib.hid hown2; have HF2 := Lib.hid hf2; clear hown2 hf2; obtain ⟨q, cap, hq, hqB, -, -⟩ := own_shape HO2.out (by omega); subst hq; have hbk2 : w2.heap[g]? = some (.cells #[.pointer (some ⟨g, 0, none⟩), v, .int .i64 (d : Int)] 170 (0, 0)) := HF2.out.keeps HBK.out type_pt; have d1 := cell_of_row w2 g 1 _ _ _ hbk2; have f1 : w2.frozen? ⟨g, 1, none⟩ = false := (by simp [World.frozen?, hbk2]); have HBK2 := Lib.hid hbk2; clear hbk2)
  go_ret
  have HKK := Lib.hid ((HK1.out.frm HF2.out).set 1 (.slice (some ⟨q, 0, none⟩) (l.length + 1) cap))
  refine ⟨rfl, ⟨⟨.pointer (some ⟨g, 0, none⟩), _, .inr rfl, by rw [heap_set HBK2.out]; rfl, ?_, fun e => by simp at e⟩, hgB, ?_, HTB.out.pk hgt hgB HKK.out, hgt⟩, HKK.out⟩
  · have hown3 := HO2.out
    have hne : g < q := by omega
    have e1 : (l ++ [c]).length = l.length + 1 := by simp
    have e2 : Lib.byteCells (l ++ [c]) = Lib.byteCells l ++ [.int .u8 (c.toNat : Int)] := by simp [Lib.byteCells]
    rw [e1, e2]
    refine ⟨hown3.1, .inr ?_⟩
    rcases hown3.2 with ⟨h5, _⟩ | ⟨q', cap', cur, hv, hq, hh, hr⟩
    · cases h5
    · simp only [Value.slice.injEq, Option.some.injEq, Addr.mk.injEq, and_true, true_and] at hv
      obtain ⟨rfl, rfl⟩ := hv
      exact ⟨q, cap, cur, rfl, hq, (Below.heap_setCell _ _ _ _ (by show q ≠ g; omega)).trans hh, hr⟩
  · have := HF2.out.size; simp only [World.setCell, Array.size_modify]; omega
theorem own_set {w : World} {B e sz n : Nat} {v u : Value} {xs : List Value} {g i : Nat} (h : w.ownsRow B e sz v n xs) (hg : g < B) : (w.setCell ⟨g, i, none⟩ u).ownsRow B e sz v n xs := by
  refine ⟨h.1, ?_⟩
  rcases h.2 with h5 | ⟨q, cap, cur, hv, hq, hh, hr⟩
  · exact .inl h5
  · exact .inr ⟨q, cap, cur, hv, hq, (Below.heap_setCell _ _ _ _ (by show q ≠ g; omega)).trans hh, hr⟩
set_option maxRecDepth 100000 in
set_option maxHeartbeats 1000000 in
theorem writeString_any (h : Pt w B g d l) (hl : l.length ≤ 1000000000) (s : Bs) (hs : s.length ≤ 1000000000) : Calls Tryz.prog 206 #[.pointer (some ⟨g, 0, none⟩), .string (ofL s)] w (PtGot B g d (l ++ s) (.tuple #[.int .i64 (s.length : Int), .nilIface]) w) := by
  have H := Lib.hid h
  have hgB := h.gB
  have hBw := h.hB
  have HTB := Lib.hid h.tb
  have hgt := h.gt
  obtain ⟨y, hy⟩ : ∃ y, ofL s = y := ⟨_, rfl⟩
  have hyz : y.size = s.length := by rw [← hy, ofL_size]
  have hyc : Lib.strCells y = Lib.byteCells s := by rw [← hy]; simp [Lib.strCells, Lib.byteCells, ofL]
  have HYC := Lib.hid hyc
  rw [hy]
  clear h hy hyc
  obtain ⟨i0, hi, hz0, hz1, hz2⟩ := info_parts info_u8
  go_enter Tryz.func206, Tryz.ntmps206
  go_wp2_with fail
  refine (check_pt H.out).mono ?_
  rintro e w1 ⟨rfl, ⟨v, hbk, hown, hnl⟩, hk1, hs1⟩
  have c1 : w1.cell? ⟨g, 1, none⟩ = some v := cell_of_row w1 g 1 _ _ _ hbk
  have HOW := Lib.hid hown
  have HBK := Lib.hid hbk
  have HK1 := Lib.hid hk1
  have hB1 : B ≤ w1.heap.size := by omega
  have HN := Lib.hid hnl
  have HS1 := Lib.hid hs1
  clear hown hbk hk1 hs1 hnl
  have q1 : l.length + y.size ≤ maxLen := by unfold maxLen; omega
  have q2 : l.length + y.size ≤ 140737488355328 := by omega
  go_wp2_with (at_builtin; refine Lib.wpList_append_own_string _ rfl _ _ 41 9 rfl B 5 i0 Tryz.underlying41 Tryz.underlying9 hi hz0 hz1 hz2 _ _ _ rfl HOW.out y rfl q1 q2 hB1 ?_; intro v' w2 hown2 hgr2 hnn; have HO2 := Lib.hid hown2; have HF2 := Lib.hid (Frm.grown (e := 5) (B := B) HOW.out hgr2); have HNN := Lib.hid hnn; clear hown2 hgr2 hnn; obtain ⟨A, n', cap, hv'⟩ : ∃ A n' cap, v' = .slice A n' cap := (by rcases HO2.out.2 with ⟨h5, _⟩ | ⟨q, cap, cur, h5, _⟩; exact ⟨_, _, _, h5⟩; exact ⟨_, _, _, h5⟩); subst hv'; have hbk2 : w2.heap[g]? = some (.cells #[.pointer (some ⟨g, 0, none⟩), v, .int .i64 (d : Int)] 170 (0, 0)) := HF2.out.keeps HBK.out type_pt; have d1 := cell_of_row w2 g 1 _ _ _ hbk2; have f1 : w2.frozen? ⟨g, 1, none⟩ = false := (by simp [World.frozen?, hbk2]); have HBK2 := Lib.hid hbk2; clear hbk2)
  go_ret2
  have HKK := Lib.hid ((HK1.out.frm HF2.out).set 1 (.slice A n' cap))
  refine ⟨rfl, ⟨⟨.pointer (some ⟨g, 0, none⟩), _, .inr rfl, by rw [heap_set HBK2.out]; rfl, ?_, fun e => ?_⟩, hgB, ?_, HTB.out.pk hgt hgB HKK.out, hgt⟩, HKK.out⟩
  · have h3 := HO2.out
    rw [HYC.out, hyz] at h3
    have e2 : Lib.byteCells (l ++ s) = Lib.byteCells l ++ Lib.byteCells s := by simp [Lib.byteCells]
    rw [List.length_append, e2]
    exact own_set h3 hgB
  · rw [List.append_eq_nil_iff] at e
    exact HNN.out.2 ⟨HN.out e.1, by first | exact e.2 | (rw [hyz, e.2]; rfl)⟩
  · have := HF2.out.size; simp only [World.setCell, Array.size_modify]; omega
theorem cells_u8 : Tryz.prog.cellsOf 5 = 1 := by kernel_rfl
set_option maxRecDepth 100000 in
set_option maxHeartbeats 2000000 in
theorem bstring_any (h : Pt w B g d l) : Calls Tryz.prog 93 #[.pointer (some ⟨g, 0, none⟩)] w (fun e w' => e = .returned (.string (ofL l)) ∧ Below B w w') := by
  have hBw := h.hB
  obtain ⟨a, v, -, h2, h3, h4⟩ := h.blk
  by_cases h0 : l = []
  · obtain rfl := h4 h0
    subst h0
    have c1 : w.drew.cell? ⟨g, 1, none⟩ = some (.slice none 0 0) := cell_of_row w g 1 _ _ _ h2
    have hUS := Lib.run_unsafeString_none (P := Tryz.prog) w.drew 215 3 9 none
    have hSD : (Builtin.unsafeSliceData_ #[41] 215 #[.slice none 0 0]).run Tryz.prog w.drew = .ok (.pointer none) w.drew := rfl
    clear h h2 h3 h4
    go_enter Tryz.func93, Tryz.ntmps93
    go_wp2
    go_region
    all_goals (go_wp2; go_ret; exact ⟨rfl, (Below.refl B w).drew⟩)
  · have hl0 : l.length ≠ 0 := by simpa using h0
    obtain ⟨q, cap, cur, rfl, hbg, hg, hnc, hcm, hcs, htake⟩ : ∃ q cap cur, v = .slice (some ⟨q, 0, none⟩) l.length cap ∧ B ≤ q ∧ w.heap[q]? = some (.cells cur 5 (0, 0)) ∧ l.length ≤ cap ∧ cap ≤ maxLen ∧ cur.size = cap * 1 ∧ cur.toList.take (l.length * 1) = Lib.byteCells l := by
      rcases h3.2 with ⟨_, hz⟩ | ⟨q, cap, cur, hv, r⟩
      · exact absurd hz hl0
      · exact ⟨q, cap, cur, hv, r⟩
    have c1 : w.drew.cell? ⟨g, 1, none⟩ = some (.slice (some ⟨q, 0, none⟩) l.length cap) := cell_of_row w g 1 _ _ _ h2
    have hSD : (Builtin.unsafeSliceData_ #[41] 215 #[.slice (some ⟨q, 0, none⟩) l.length cap]).run Tryz.prog w.drew = .ok (.pointer (some ⟨q, 0, none⟩)) w.drew := Lib.run_unsafeSliceData_row _ _ _ _ _ _ (by omega)
    have hUS : (Builtin.unsafeString_ #[215, 3] 9 #[.pointer (some ⟨q, 0, none⟩), .int .i64 l.length]).run Tryz.prog w.drew = .ok (.string ⟨l.toArray⟩) (w.drew.freeze ⟨q, 0, none⟩ l.length) := by
      refine Lib.run_unsafeString_row w.drew 215 3 9 5 Tryz.underlying215 cells_u8 q cur.size (by have hg' : w.drew.heap[q]? = some (.cells cur 5 (0, 0)) := hg; simp [World.shape?, hg']) l h0 (by omega) (by unfold maxLen at hcm; omega) ?_
      intro j x hx
      have := h3.cells (g := q) rfl j (.int .u8 x.toNat) (by simp [Lib.byteCells, hx])
      exact this
    clear h h2 h3 h4 h0 hl0 hg hnc hcm hcs htake
    go_enter Tryz.func93, Tryz.ntmps93
    go_wp2
    go_region
    all_goals (go_wp2; go_ret; exact ⟨rfl, Lib.below_freeze (Below.drew (Below.refl B w)) (p := ⟨q, 0, none⟩) hbg _⟩)
end
/- Layer 10: the contract of line. -/
open Go.RowKit

section
variable {g B d : Nat} {l : Bs} {w w' : World}
/-- Block b holds strings: the parts of a line. -/
def Parts (w : World) (b : Nat) (ps : List Bs) : Prop := w.heap[b]? = some (.cells (ps.map vS).toArray 9 (0, 0))
theorem Parts.pk {b : Nat} {ps : List Bs} (h : Parts w b ps) (hk : Pk g B w w') (hb : b ≠ g) : Parts w' b ps :=
  (hk.block b (lt_of_some h) hb (.inr fun cs fr hc => by
    unfold Parts at h
    rw [h] at hc
    simp only [Option.some.injEq, Obj.cells.injEq] at hc
    exact absurd hc.2.1 (by decide))).trans h
theorem Parts.cell {b i : Nat} {ps : List Bs} {x : Bs} (h : Parts w b ps) (hi : ps[i]? = some x) : w.cell? ⟨b, i, none⟩ = some (.string (ofL x)) := by
  rw [cell_of_row w b i _ _ _ h, ← Array.getElem?_toList]
  simp [hi, vS]
def Ln1 (w : World) (B g d b : Nat) (l : Bs) (ps : List Bs) (gk : Nat) (v : Value) (wr : World) : Prop :=
  ∃ i : Nat, v = .int .i64 (i : Int) ∧ i ≤ d ∧ d ≤ gk + i ∧ Hid (Pt wr B g d (l ++ List.replicate i 9)) ∧ Hid (Pk g B w wr) ∧ Hid (Parts wr b ps)
def Ln2 (w : World) (B g d b : Nat) (l : Bs) (ps : List Bs) (gk : Nat) (v : Value) (wr : World) : Prop :=
  ∃ i : Nat, v = .int .i64 (i : Int) ∧ i ≤ ps.length ∧ ps.length ≤ gk + i ∧ Hid (Pt wr B g d (l ++ (ps.take i).flatten)) ∧ Hid (Pk g B w wr) ∧ Hid (Parts wr b ps)
theorem flat_le {ps : List Bs} {x : Bs} (h : x ∈ ps) : x.length ≤ ps.flatten.length := by
  induction ps with
  | nil => simp at h
  | cons a r ih =>
    rw [List.flatten_cons, List.length_append]
    rcases List.mem_cons.1 h with rfl | h
    · omega
    · have := ih h; omega
theorem flat_take (ps : List Bs) (i : Nat) : (ps.take i).flatten.length ≤ ps.flatten.length := by
  have h := congrArg (fun x : List Bs => x.flatten.length) (List.take_append_drop i ps)
  simp only [List.flatten_append, List.length_append] at h
  omega
set_option maxRecDepth 100000 in
set_option maxHeartbeats 2000000 in
theorem line_any {b : Nat} {ps : List Bs} (h : Pt w B g d l) (hp : Parts w b ps) (hbg : b ≠ g) (hps : ps.length ≤ 100) (hl : (l ++ lineB d ps).length ≤ 1000000000) :
    Calls Tryz.prog 156 #[.pointer (some ⟨g, 0, none⟩), .slice (some ⟨b, 0, none⟩) ps.length ps.length] w (PtGot B g d (l ++ lineB d ps) (.tuple #[]) w) := by
  have hl2 : l.length + (d + ps.flatten.length + 1) ≤ 1000000000 := by
    have := hl
    unfold lineB at this
    simp only [List.length_append, List.length_replicate, List.length_cons, List.length_nil] at this
    omega
  have c2 : w.cell? ⟨g, 2, none⟩ = some (.int .i64 (d : Int)) := by
    obtain ⟨a, v, _, h2, _⟩ := h.blk
    exact cell_of_row w g 2 _ _ _ h2
  have H := Lib.hid h
  have HP := Lib.hid hp
  have HL := Lib.hid hl2
  have hd : d ≤ 1000000000 := by omega
  clear h hp hl hl2
  go_enter Tryz.func156, Tryz.ntmps156
  go_wp2_with fail
  go_loopg [10, 11, 12, 13, 14, 15, 16] d (fun gk v _ _ _ _ _ _ wr => Ln1 w B g d b l ps gk v wr)
  case atStart => exact ⟨0, rfl, by omega, by omega, by simpa using H, Pk.refl g B w, HP⟩
  case round =>
    obtain ⟨i, rfl, hi, hgk, HPt, HPk, HPa⟩ := hrel
    by_cases hid : i = d
    · subst hid
      have hlt : ¬ ((i : Int) < (i : Int)) := by omega
      clear H HP c2
      go_wp2_with fail
      go_loopg [5, 19, 20, 21, 22, 23, 24, 25, 26, 27, 28] ps.length (fun gk _ v _ _ _ _ _ _ _ _ _ wr => Ln2 w B g i b (l ++ List.replicate i 9) ps gk v wr)
      case atStart => exact ⟨0, rfl, by omega, by omega, by simpa using HPt, HPk, HPa⟩
      case round =>
        clear HPt HPk HPa
        obtain ⟨k, rfl, hk, hgk2, HPt, HPk, HPa⟩ := hrel
        have hfl := Lib.hid (flat_take ps k)
        by_cases hkd : k = ps.length
        · have hlt2 : ¬ ((k : Int) < (ps.length : Int)) := by omega
          have e1 := Lib.hid (show (ps.take k).flatten = ps.flatten by rw [hkd, List.take_length])
          clear hkd
          go_wp2_with fail
          refine (writeByte_any HPt.out (by have := HL.out; have := hfl.out; simp only [List.length_append, List.length_replicate]; omega) 10).mono ?_
          rintro e w3 ⟨rfl, P3, K3⟩
          have P3' := Lib.hid P3
          have K3' := Lib.hid (HPk.out.trans K3)
          clear P3 K3
          go_wp2_with fail
          refine bodyPost_end (v := .tuple #[]) (by simp [results, Tryz.results156, go_sem]) rfl ⟨rfl, ?_, K3'.out⟩
          have := P3'.out
          rw [e1.out] at this
          unfold lineB
          rw [← List.append_assoc, ← List.append_assoc]
          exact this
        · have hlt2 : (k : Int) < (ps.length : Int) := by omega
          have hkl : k < ps.length := by omega
          obtain ⟨x, hx⟩ : ∃ x, ps[k]? = some x := ⟨ps[k], List.getElem?_eq_getElem hkl⟩
          have ck := HPa.out.cell hx
          have hxl := Lib.hid (flat_le (List.mem_of_getElem? hx))
          have HX := Lib.hid hx
          clear hx hkd
          go_wp2_with fail
          refine (writeString_any HPt.out (by have := HL.out; have := hfl.out; simp only [List.length_append, List.length_replicate]; omega) x (by have := HL.out; have := hxl.out; omega)).mono ?_
          rintro e w3 ⟨rfl, P3, K3⟩
          have P3' := Lib.hid P3
          have K3' := Lib.hid (HPk.out.trans K3)
          have A3' := Lib.hid (HPa.out.pk K3 hbg)
          clear P3 K3 ck
          go_wp2_with fail
          go_roundg (gk - 1)
          case rel =>
            refine ⟨k + 1, by simp, by omega, by omega, ?_, K3', A3'⟩
            have := P3'.out
            unfold Hid
            rw [List.take_add_one, HX.out]
            simpa [List.append_assoc] using this
          case measure => omega
    · have hlt : (i : Int) < (d : Int) := by omega
      clear H HP
      go_wp2_with fail
      refine (writeByte_any HPt.out (by have := HL.out; simp only [List.length_append, List.length_replicate]; omega) 9).mono ?_
      rintro e w3 ⟨rfl, P3, K3⟩
      have P3' := Lib.hid P3
      have K3' := Lib.hid (HPk.out.trans K3)
      have A3' := Lib.hid (HPa.out.pk K3 hbg)
      clear P3 K3
      go_wp2_with fail
      go_roundg (gk - 1)
      case rel =>
        refine ⟨i + 1, by simp, by omega, by omega, ?_, K3', A3'⟩
        have := P3'.out
        unfold Hid
        rw [List.replicate_succ', ← List.append_assoc]
        exact this
      case measure => omega
end
/- string(r) of a byte's number below 128; texts put together. -/
open Go.RowKit

theorem encode_small (r : Nat) (h : r < 128) : Utf8.encode (r : Int) = ofL [UInt8.ofNat r] := by
  have hv : Utf8.valid (r : Int) = true := by simp [Utf8.valid]; omega
  unfold Utf8.encode
  simp only [hv, if_true, Int.toNat_natCast]
  rw [if_pos (by omega)]
  rfl
theorem rune_str (r : Nat) (h : r < 128) (w : World) : (convert 21 9 (.int .i32 (r : Int))).run Tryz.prog w = .ok (.string (ofL [UInt8.ofNat r])) w := by
  rw [← encode_small r h]
  simp [convert, run_underlying Tryz.underlying21, run_underlying Tryz.underlying9, Conv.intToString, go_sem]
theorem ofL_append (a b : List UInt8) : ofL a ++ ofL b = ofL (a ++ b) := by
  apply ByteArray.ext
  simp [ofL, ByteArray.data_append]
/- Layer 10: the contracts of showAdded, showTerm, listed, within, isElse. -/
open Go.RowKit

section
variable {w w' : World}
theorem below_grow (w : World) (os : Array Obj) : Below w.heap.size w (Go.Sort.grow w os) :=
  ⟨rfl, rfl, rfl, by simp [Go.Sort.grow], fun k hk => by simp only [Go.Sort.grow]; rw [Array.getElem?_append_left hk]⟩
theorem itoa_any (h : Tb w) (n : Int) (h0 : -1000000000 ≤ n) (h1 : n ≤ 1000000000) : Calls Tryz.prog 235 #[.int .i64 n] w (Tells w (.string (ofL (itoaB n)))) := by
  refine (Go.Proofs.YtekpefcggikcbaaGreatDoor.Tryz.strconv_Itoa n (by omega) (by omega) w h).mono ?_
  rintro e w' ⟨rfl, k, os, rfl⟩
  exact ⟨rfl, below_drewN (Below.refl _ w) k |>.trans (below_grow (w.drewN k) os)⟩
theorem itoa_len (n : Int) (h0 : -1000000000 ≤ n) (h1 : n ≤ 1000000000) : (itoaB n).length ≤ 100 := by
  exact Nat.le_trans (Go.Lib.itoa_length_le n (by omega) (by omega)) (by omega)
theorem ofL_app3 (a b c : Bs) : ofL a ++ ofL b ++ ofL c = ofL (a ++ b ++ c) := by rw [ofL_append, ofL_append]
theorem ofL_app4 (a b c d : Bs) : ofL a ++ ofL b ++ ofL c ++ ofL d = ofL (a ++ b ++ c ++ d) := by rw [ofL_append, ofL_append, ofL_append]
theorem ofL_app5 (a b c d e : Bs) : ofL a ++ ofL b ++ ofL c ++ ofL d ++ ofL e = ofL (a ++ b ++ c ++ d ++ e) := by rw [ofL_append, ofL_append, ofL_append, ofL_append]
theorem eS {x : ByteArray} {l : Bs} (h : x = ofL l) : Ending.returned (.string x) = Ending.returned (.string (ofL l)) := by rw [h]
theorem showAdded_len (n : Int) (h0 : -999999 ≤ n) (h1 : n ≤ 999999) : (showAddedB n).length ≤ 103 := by
  unfold showAddedB
  split
  · have := itoa_len n (by omega) (by omega); simp; omega
  · split
    · have := itoa_len (-n) (by omega) (by omega); simp; omega
    · simp
def SmN (n : Int) : Prop := -999999 ≤ n ∧ n ≤ 999999
set_option maxHeartbeats 1000000 in
theorem showAdded_any (h : Tb w) (n : Int) (hn : SmN n) : Calls Tryz.prog 251 #[.int .i64 n] w (Tells w (.string (ofL (showAddedB n)))) := by
  obtain ⟨h0, h1⟩ := hn
  have H := Lib.hid h
  clear h
  by_cases hp : 0 < n
  · have HS := Lib.hid (show showAddedB n = [32, 43, 32] ++ itoaB n by unfold showAddedB; rw [if_pos hp])
    go_enter Tryz.func251, Tryz.ntmps251
    go_wp2_with fail
    refine (itoa_any H.out n (by omega) (by omega)).mono ?_; rintro e w1 ⟨rfl, hb⟩
    have HB := Lib.hid hb
    have hz : (ofL (itoaB n)).size ≤ 100 := by rw [ofL_size]; exact itoa_len n (by omega) (by omega)
    clear hb
    go_wp2_with fail
    go_ret
    exact ⟨by rw [HS.out, ← ofL_append]; rfl, HB.out⟩
  · by_cases hq : n < 0
    · have HS := Lib.hid (show showAddedB n = [32, 45, 32] ++ itoaB (-n) by unfold showAddedB; rw [if_neg hp, if_pos hq])
      have hw : wrap64 (-n) = -n := by unfold wrap64; omega
      go_enter Tryz.func251, Tryz.ntmps251
      go_wp2_with fail
      refine (itoa_any H.out (-n) (by omega) (by omega)).mono ?_; rintro e w1 ⟨rfl, hb⟩
      have HB := Lib.hid hb
      have hz : (ofL (itoaB (-n))).size ≤ 100 := by rw [ofL_size]; exact itoa_len (-n) (by omega) (by omega)
      clear hb
      go_wp2_with fail
      go_ret
      exact ⟨by rw [HS.out, ← ofL_append]; rfl, HB.out⟩
    · have HS := Lib.hid (show showAddedB n = [] by unfold showAddedB; rw [if_neg hp, if_neg hq])
      go_enter Tryz.func251, Tryz.ntmps251
      go_wp2_with fail
      go_ret
      exact ⟨by rw [HS.out]; rfl, Below.refl _ _⟩
set_option maxHeartbeats 1000000 in
theorem listed_any {S : Nat → Prop} {v : Value} (l : List Bs) (h : Lies w S v (dL l)) (hn : l.length ≤ 10000) (hl : (joinB [44, 32] l).length ≤ 100000000) : Calls Tryz.prog 157 #[v] w (Tells w (.string (ofL (listedB l)))) := by
  have HJ := Lib.hid (join_any l [44, 32] h hn hl)
  obtain ⟨A, n, c, rfl, -⟩ := Lies.slc (show Lies w S v (.s 1 _) from h)
  have HS := Lib.hid (show listedB l = [40] ++ joinB [44, 32] l ++ [41] from rfl)
  rw [HS.out]
  obtain ⟨y, hy⟩ : ∃ y, joinB [44, 32] l = y := ⟨_, rfl⟩
  rw [hy] at HJ hl ⊢
  have hz : (ofL y).size ≤ 100000000 := by rw [ofL_size]; exact hl
  clear h hl hy HS
  go_enter Tryz.func157, Tryz.ntmps157
  go_wp2_with fail
  refine HJ.out.mono ?_; rintro e w1 ⟨rfl, hb⟩
  have HB := Lib.hid hb
  clear hb
  go_wp2_with fail
  go_ret
  exact ⟨eS (ofL_app3 [40] y [41]), HB.out⟩
/-- A term that is small enough. -/
def SmTm (t : Tm) : Prop := t.m.length ≤ 1000 ∧ t.f.length ≤ 1000 ∧ SmN t.n
theorem showTerm_len (t : Tm) (h : SmTm t) : (showTermB t).length ≤ 2200 := by
  obtain ⟨h1, h2, h3, h4⟩ := h
  have h5 := showAdded_len t.n h3 h4
  have h6 := itoa_len t.n (by omega) (by omega)
  unfold showTermB showFieldOf
  split
  · omega
  · split <;> split <;> simp <;> omega
set_option maxRecDepth 20000 in
set_option maxHeartbeats 4000000 in
theorem showTerm_any (h : Tb w) (t : Tm) (ht : SmTm t) : Calls Tryz.prog 236 #[vT t] w (Tells w (.string (ofL (showTermB t)))) := by
  obtain ⟨k, m, f, n⟩ := t
  obtain ⟨hml, hfl, hn⟩ := ht
  have hml' : m.length ≤ 1000 := hml
  have hfl' : f.length ≤ 1000 := hfl
  have hN := Lib.hid (show SmN n from hn)
  have hzm : (ofL m).size ≤ 1000 := by rw [ofL_size]; exact hml'
  have hzf : (ofL f).size ≤ 1000 := by rw [ofL_size]; exact hfl'
  have B1 := Lib.hid ((Below.refl _ w).alloc (Nat.le_refl _) (.cells #[.int .i64 k, .string (ofL m), .string (ofL f), .int .i64 n] 98))
  have H := Lib.hid (h.below B1.out)
  have hza := Lib.hid (show (ofL (showAddedB n)).size ≤ 103 by rw [ofL_size]; exact showAdded_len n hn.1 hn.2)
  unfold vT
  have hm : (ofL m).toList = m := ofL_toList m
  clear h hn hml hfl hml' hfl'
  by_cases h1 : k = 1
  · have e1 : (k == 1) = true := by simpa using h1
    have HS := Lib.hid (show showTermB ⟨k, m, f, n⟩ = itoaB n by unfold showTermB; rw [if_pos h1])
    have hb1 := hN.out.1
    have hb2 := hN.out.2
    clear h1
    go_enter Tryz.func236, Tryz.ntmps236
    go_wp2_with fail
    refine (itoa_any H.out n (by omega) (by omega)).mono ?_; rintro e w1 ⟨rfl, hb⟩
    have HB := Lib.hid (B1.out.trans (hb.mono (by simp)))
    clear hb
    go_wp2_with fail
    go_ret
    exact ⟨by rw [HS.out]; rfl, HB.out⟩
  · have e1 : (k == 1) = false := by simpa using h1
    by_cases h3 : k = 3
    · have e3 : (k == 3) = true := by simpa using h3
      by_cases hme : m = []
      · skip
        have HS := Lib.hid (show showTermB ⟨k, m, f, n⟩ = [108, 101, 110, 40] ++ f ++ [41] ++ showAddedB n by unfold showTermB showFieldOf; rw [if_neg h1, if_pos h3, if_pos hme])
        have e0 : (!m.isEmpty) = false := by simp [hme]
        clear h1 h3 hme
        go_enter Tryz.func236, Tryz.ntmps236
        go_wp2_with fail
        refine (showAdded_any H.out n hN.out).mono ?_; rintro e w1 ⟨rfl, hb⟩
        have HB := Lib.hid (B1.out.trans (hb.mono (by simp)))
        have hz := hza.out
        clear hb
        go_wp2_with fail
        go_ret
        exact ⟨by rw [HS.out]; exact eS (ofL_app4 [108, 101, 110, 40] f [41] (showAddedB n)), HB.out⟩
      · skip
        have HS := Lib.hid (show showTermB ⟨k, m, f, n⟩ = [108, 101, 110, 40] ++ (m ++ [46] ++ f) ++ [41] ++ showAddedB n by unfold showTermB showFieldOf; rw [if_neg h1, if_pos h3, if_neg hme])
        have e0 : (!m.isEmpty) = true := by simp [hme]
        clear h1 h3 hme
        go_enter Tryz.func236, Tryz.ntmps236
        go_wp2_with fail
        refine (showAdded_any H.out n hN.out).mono ?_; rintro e w1 ⟨rfl, hb⟩
        have HB := Lib.hid (B1.out.trans (hb.mono (by simp)))
        have hz := hza.out
        clear hb
        go_wp2_with fail
        go_ret
        exact ⟨by rw [HS.out]; exact eS (show ofL [108, 101, 110, 40] ++ (ofL m ++ ofL [46] ++ ofL f) ++ ofL [41] ++ ofL (showAddedB n) = _ by rw [ofL_app3 m, ofL_app4]), HB.out⟩
    · have e3 : (k == 3) = false := by simpa using h3
      by_cases hme : m = []
      · skip
        have HS := Lib.hid (show showTermB ⟨k, m, f, n⟩ = f ++ showAddedB n by unfold showTermB showFieldOf; rw [if_neg h1, if_neg h3, if_pos hme])
        have e0 : (!m.isEmpty) = false := by simp [hme]
        clear h1 h3 hme
        go_enter Tryz.func236, Tryz.ntmps236
        go_wp2_with fail
        refine (showAdded_any H.out n hN.out).mono ?_; rintro e w1 ⟨rfl, hb⟩
        have HB := Lib.hid (B1.out.trans (hb.mono (by simp)))
        have hz := hza.out
        clear hb
        go_wp2_with fail
        go_ret
        exact ⟨by rw [HS.out]; exact eS (ofL_append f (showAddedB n)), HB.out⟩
      · skip
        have HS := Lib.hid (show showTermB ⟨k, m, f, n⟩ = (m ++ [46] ++ f) ++ showAddedB n by unfold showTermB showFieldOf; rw [if_neg h1, if_neg h3, if_neg hme])
        have e0 : (!m.isEmpty) = true := by simp [hme]
        clear h1 h3 hme
        go_enter Tryz.func236, Tryz.ntmps236
        go_wp2_with fail
        refine (showAdded_any H.out n hN.out).mono ?_; rintro e w1 ⟨rfl, hb⟩
        have HB := Lib.hid (B1.out.trans (hb.mono (by simp)))
        have hz := hza.out
        clear hb
        go_wp2_with fail
        go_ret
        exact ⟨by rw [HS.out]; exact eS (ofL_app4 m [46] f (showAddedB n)), HB.out⟩
end
/- Layer 10: the contracts of showAtom, showField, within, isElse. -/
open Go.RowKit

section
variable {w w' : World}
def SmAm (a : Am) : Prop := SmTm a.l ∧ a.op.length ≤ 1000 ∧ SmTm a.r
theorem showAtom_len (a : Am) (h : SmAm a) : (showAtomB a).length ≤ 6000 := by
  have h1 := showTerm_len a.l h.1
  have h2 := showTerm_len a.r h.2.2
  have h3 := h.2.1
  unfold showAtomB
  simp only [List.length_append, List.length_cons, List.length_nil]
  omega
set_option maxRecDepth 20000 in
set_option maxHeartbeats 4000000 in
theorem showAtom_any (h : Tb w) (a : Am) (ha : SmAm a) : Calls Tryz.prog 209 #[vA a] w (Tells w (.string (ofL (showAtomB a)))) := by
  obtain ⟨l, op, r⟩ := a
  obtain ⟨hl, ho, hr⟩ := ha
  have hzo : (ofL op).size ≤ 1000 := by rw [ofL_size]; exact ho
  have hzl : (ofL (showTermB l)).size ≤ 2200 := by rw [ofL_size]; exact showTerm_len l hl
  have hzr : (ofL (showTermB r)).size ≤ 2200 := by rw [ofL_size]; exact showTerm_len r hr
  have hz1 : (ofL [32]).size = 1 := rfl
  have HL := Lib.hid (show SmTm l from hl)
  have HRR := Lib.hid (show SmTm r from hr)
  have hE : ofL (showAtomB ⟨l, op, r⟩) = ofL (showTermB l) ++ (⟨#[32]⟩ : ByteArray) ++ ofL op ++ (⟨#[32]⟩ : ByteArray) ++ ofL (showTermB r) := (ofL_app5 _ _ _ _ _).symm
  rw [hE]
  unfold vA
  have B1 := Lib.hid ((Below.refl _ w).alloc (Nat.le_refl _) (.cells #[.int .i64 l.k, .string (ofL l.m), .string (ofL l.f), .int .i64 l.n, .string (ofL op), .int .i64 r.k, .string (ofL r.m), .string (ofL r.f), .int .i64 r.n] 100))
  have HTB := Lib.hid (Tb.below (w' := (w.alloc (.cells #[.int .i64 l.k, .string (ofL l.m), .string (ofL l.f), .int .i64 l.n, .string (ofL op), .int .i64 r.k, .string (ofL r.m), .string (ofL r.f), .int .i64 r.n] 100))) h B1.out)
  have HC := Lib.hid (Bx.new w 100 #[.int .i64 l.k, .string (ofL l.m), .string (ofL l.f), .int .i64 l.n, .string (ofL op), .int .i64 r.k, .string (ofL r.m), .string (ofL r.f), .int .i64 r.n])
  clear h hl hr ho hE
  go_enter Tryz.func209, Tryz.ntmps209
  go_wp2_with fail
  refine region_phi (n := 15) (fun i v w' => match i with
        | 0 => v = .pointer (some ⟨w.heap.size, 0, none⟩)
        | 1 => v = .agg #[.int .i64 l.k, .string (ofL l.m), .string (ofL l.f), .int .i64 l.n]
        | 2 => v = .string (ofL (showTermB l))
        | 3 => v = .string (ofL (showTermB l) ++ (⟨#[32]⟩ : ByteArray))
        | 4 => v = .pointer (some ⟨w.heap.size, 4, none⟩)
        | 5 => v = .string (ofL op)
        | 6 => v = .string (ofL (showTermB l) ++ (⟨#[32]⟩ : ByteArray) ++ ofL op)
        | 7 => v = .string (ofL (showTermB l) ++ (⟨#[32]⟩ : ByteArray) ++ ofL op ++ (⟨#[32]⟩ : ByteArray))
        | 8 => v = .pointer (some ⟨w.heap.size, 5, none⟩)
        | 9 => v = .agg #[.int .i64 r.k, .string (ofL r.m), .string (ofL r.f), .int .i64 r.n]
        | 10 => v = .string (ofL (showTermB r))
        | 11 => v = .string (ofL (showTermB l) ++ (⟨#[32]⟩ : ByteArray) ++ ofL op ++ (⟨#[32]⟩ : ByteArray) ++ ofL (showTermB r))
        | 12 => v = .string (ofL (showTermB l) ++ (⟨#[32]⟩ : ByteArray) ++ ofL op ++ (⟨#[32]⟩ : ByteArray) ++ ofL (showTermB r))
        | _ => True) (by kernel_rfl) (by kernel_rfl) rfl ?_ (allOps_spec ?_) ?_
  · intro i v w w' h hb
    match i, h with
    | 0, h => exact h
    | 1, h => exact h
    | 2, h => exact h
    | 3, h => exact h
    | 4, h => exact h
    | 5, h => exact h
    | 6, h => exact h
    | 7, h => exact h
    | 8, h => exact h
    | 9, h => exact h
    | 10, h => exact h
    | 11, h => exact h
    | 12, h => exact h
    | _ + 13, _ => trivial
  · refine ⟨?_, ?_, ?_, ?_, ?_, ?_, ?_, ?_, ?_, ?_, ?_, ?_, ?_, trivial⟩
    · intro a w' hb hp
      have b1 : a.tmps[1]?.getD undef = .pointer (some ⟨w.heap.size, 0, none⟩) := hb.at 1 (by kernel_rfl)
      exact step_run (v := .pointer (some ⟨w.heap.size, 0, none⟩)) rfl (by simp [execOp, go_sem, b1, Act.eval]) rfl
    · intro a w' hb hp
      have h3 : a.tmps[3]?.getD undef = .pointer (some ⟨w.heap.size, 0, none⟩) := slot_eq.symm.trans (hp ⟨0, .data⟩ (by simp) rfl _ rfl)
      have k0 : w'.cell? ⟨w.heap.size, 0, none⟩ = some (.int .i64 l.k) := (hb.ext.cell (by simp)).trans (HC.out.cell 0)
      have k1 : w'.cell? ⟨w.heap.size, 1, none⟩ = some (.string (ofL l.m)) := (hb.ext.cell (by simp)).trans (HC.out.cell 1)
      have k2 : w'.cell? ⟨w.heap.size, 2, none⟩ = some (.string (ofL l.f)) := (hb.ext.cell (by simp)).trans (HC.out.cell 2)
      have k3 : w'.cell? ⟨w.heap.size, 3, none⟩ = some (.int .i64 l.n) := (hb.ext.cell (by simp)).trans (HC.out.cell 3)
      exact step_run (v := .agg #[.int .i64 l.k, .string (ofL l.m), .string (ofL l.f), .int .i64 l.n]) rfl (by simp [execOp, go_sem, Act.eval, h3, k0, k1, k2, k3]) rfl
    · intro a w' hb hp
      have h4 : a.tmps[4]?.getD undef = .agg #[.int .i64 l.k, .string (ofL l.m), .string (ofL l.f), .int .i64 l.n] := slot_eq.symm.trans (hp ⟨1, .data⟩ (by simp) rfl _ rfl)
      refine step_call (f := 236) (args := #[.agg #[.int .i64 l.k, .string (ofL l.m), .string (ofL l.f), .int .i64 l.n]]) rfl (by simp [go_sem, h4]) ?_
      refine (showTerm_any (HTB.out.below hb.ext) l HL.out).mono ?_
      rintro e w5 ⟨rfl, hb5⟩
      exact ⟨_, rfl, hb5, rfl⟩
    · intro a w' hb hp
      have h5 : a.tmps[5]?.getD undef = .string (ofL (showTermB l)) := slot_eq.symm.trans (hp ⟨2, .data⟩ (by simp) rfl _ rfl)
      exact step_run (v := .string (ofL (showTermB l) ++ (⟨#[32]⟩ : ByteArray))) rfl (by simp [execOp, go_sem, Act.eval, h5]; omega) rfl
    · intro a w' hb hp
      have b1 : a.tmps[1]?.getD undef = .pointer (some ⟨w.heap.size, 0, none⟩) := hb.at 1 (by kernel_rfl)
      exact step_run (v := .pointer (some ⟨w.heap.size, 4, none⟩)) rfl (by simp [execOp, go_sem, b1, Act.eval]) rfl
    · intro a w' hb hp
      have h7 : a.tmps[7]?.getD undef = .pointer (some ⟨w.heap.size, 4, none⟩) := slot_eq.symm.trans (hp ⟨4, .data⟩ (by simp) rfl _ rfl)
      have k4 : w'.cell? ⟨w.heap.size, 4, none⟩ = some (.string (ofL op)) := (hb.ext.cell (by simp)).trans (HC.out.cell 4)
      exact step_run (v := .string (ofL op)) rfl (by simp [execOp, go_sem, Act.eval, h7, k4]) rfl
    · intro a w' hb hp
      have h6 : a.tmps[6]?.getD undef = .string (ofL (showTermB l) ++ (⟨#[32]⟩ : ByteArray)) := slot_eq.symm.trans (hp ⟨3, .data⟩ (by simp) rfl _ rfl)
      have h8 : a.tmps[8]?.getD undef = .string (ofL op) := slot_eq.symm.trans (hp ⟨5, .data⟩ (by simp) rfl _ rfl)
      exact step_run (v := .string (ofL (showTermB l) ++ (⟨#[32]⟩ : ByteArray) ++ ofL op)) rfl (by simp [execOp, go_sem, Act.eval, h6, h8, ByteArray.size_append]; omega) rfl
    · intro a w' hb hp
      have h9 : a.tmps[9]?.getD undef = .string (ofL (showTermB l) ++ (⟨#[32]⟩ : ByteArray) ++ ofL op) := slot_eq.symm.trans (hp ⟨6, .data⟩ (by simp) rfl _ rfl)
      exact step_run (v := .string (ofL (showTermB l) ++ (⟨#[32]⟩ : ByteArray) ++ ofL op ++ (⟨#[32]⟩ : ByteArray))) rfl (by simp [execOp, go_sem, Act.eval, h9, ByteArray.size_append]; omega) rfl
    · intro a w' hb hp
      have b1 : a.tmps[1]?.getD undef = .pointer (some ⟨w.heap.size, 0, none⟩) := hb.at 1 (by kernel_rfl)
      exact step_run (v := .pointer (some ⟨w.heap.size, 5, none⟩)) rfl (by simp [execOp, go_sem, b1, Act.eval]) rfl
    · intro a w' hb hp
      have h11 : a.tmps[11]?.getD undef = .pointer (some ⟨w.heap.size, 5, none⟩) := slot_eq.symm.trans (hp ⟨8, .data⟩ (by simp) rfl _ rfl)
      have k5 : w'.cell? ⟨w.heap.size, 5, none⟩ = some (.int .i64 r.k) := (hb.ext.cell (by simp)).trans (HC.out.cell 5)
      have k6 : w'.cell? ⟨w.heap.size, 6, none⟩ = some (.string (ofL r.m)) := (hb.ext.cell (by simp)).trans (HC.out.cell 6)
      have k7 : w'.cell? ⟨w.heap.size, 7, none⟩ = some (.string (ofL r.f)) := (hb.ext.cell (by simp)).trans (HC.out.cell 7)
      have k8 : w'.cell? ⟨w.heap.size, 8, none⟩ = some (.int .i64 r.n) := (hb.ext.cell (by simp)).trans (HC.out.cell 8)
      exact step_run (v := .agg #[.int .i64 r.k, .string (ofL r.m), .string (ofL r.f), .int .i64 r.n]) rfl (by simp [execOp, go_sem, Act.eval, h11, k5, k6, k7, k8]) rfl
    · intro a w' hb hp
      have h12 : a.tmps[12]?.getD undef = .agg #[.int .i64 r.k, .string (ofL r.m), .string (ofL r.f), .int .i64 r.n] := slot_eq.symm.trans (hp ⟨9, .data⟩ (by simp) rfl _ rfl)
      refine step_call (f := 236) (args := #[.agg #[.int .i64 r.k, .string (ofL r.m), .string (ofL r.f), .int .i64 r.n]]) rfl (by simp [go_sem, h12]) ?_
      refine (showTerm_any (HTB.out.below hb.ext) r HRR.out).mono ?_
      rintro e w5 ⟨rfl, hb5⟩
      exact ⟨_, rfl, hb5, rfl⟩
    · intro a w' hb hp
      have h10 : a.tmps[10]?.getD undef = .string (ofL (showTermB l) ++ (⟨#[32]⟩ : ByteArray) ++ ofL op ++ (⟨#[32]⟩ : ByteArray)) := slot_eq.symm.trans (hp ⟨7, .data⟩ (by simp) rfl _ rfl)
      have h13 : a.tmps[13]?.getD undef = .string (ofL (showTermB r)) := slot_eq.symm.trans (hp ⟨10, .data⟩ (by simp) rfl _ rfl)
      exact step_run (v := .string (ofL (showTermB l) ++ (⟨#[32]⟩ : ByteArray) ++ ofL op ++ (⟨#[32]⟩ : ByteArray) ++ ofL (showTermB r))) rfl (by simp [execOp, go_sem, Act.eval, h10, h13, ByteArray.size_append]; omega) rfl
    · intro a w' hb hp
      have h14 : a.tmps[14]?.getD undef = .string (ofL (showTermB l) ++ (⟨#[32]⟩ : ByteArray) ++ ofL op ++ (⟨#[32]⟩ : ByteArray) ++ ofL (showTermB r)) := slot_eq.symm.trans (hp ⟨11, .data⟩ (by simp) rfl _ rfl)
      exact step_run (v := .string (ofL (showTermB l) ++ (⟨#[32]⟩ : ByteArray) ++ ofL op ++ (⟨#[32]⟩ : ByteArray) ++ ofL (showTermB r))) rfl (by simp [execOp, Act.eval, h14]) rfl
  · intro vs w' hb hv
    have h12 : vs 12 = .string (ofL (showTermB l) ++ (⟨#[32]⟩ : ByteArray) ++ ofL op ++ (⟨#[32]⟩ : ByteArray) ++ ofL (showTermB r)) := hv 12 (by decide)
    have HB := Lib.hid (B1.out.trans (hb.mono (by simp)))
    clear hb hv
    simp only [putAll, Act.put, List.setIfInBounds_toArray, List.set_cons_zero, List.set_cons_succ, Nat.zero_add, Nat.reduceAdd, h12]
    clear h12
    go_wp2
    go_ret
    exact ⟨rfl, HB.out⟩
/-- A field that is small enough. -/
def SmFd (f : Fd) : Prop := f.nm.length ≤ 1000 ∧ SmN f.lo ∧ SmN f.hi
theorem showField_len (f : Fd) (h : SmFd f) : (showFieldB f).length ≤ 2000 := by
  obtain ⟨h1, h2, h3⟩ := h
  have h4 := itoa_len f.lo (by have := h2.1; omega) (by have := h2.2; omega)
  have h5 := itoa_len f.hi (by have := h3.1; omega) (by have := h3.2; omega)
  unfold showFieldB
  split <;> simp only [List.length_append, List.length_cons, List.length_nil] <;> omega
set_option maxRecDepth 20000 in
set_option maxHeartbeats 4000000 in
theorem showField_any (h : Tb w) (f : Fd) (hf : SmFd f) : Calls Tryz.prog 208 #[vF f] w (Tells w (.string (ofL (showFieldB f)))) := by
  obtain ⟨nm, k, lo, hi⟩ := f
  obtain ⟨hn, ⟨l0, l1⟩, ⟨g0, g1⟩⟩ := hf
  have l0' : -999999 ≤ lo := l0
  have l1' : lo ≤ 999999 := l1
  have g0' : -999999 ≤ hi := g0
  have g1' : hi ≤ 999999 := g1
  have hzn : (ofL nm).size ≤ 1000 := by rw [ofL_size]; exact hn
  have hzl : (ofL (itoaB lo)).size ≤ 100 := by rw [ofL_size]; exact itoa_len lo (by omega) (by omega)
  have hzh : (ofL (itoaB hi)).size ≤ 100 := by rw [ofL_size]; exact itoa_len hi (by omega) (by omega)
  unfold vF
  have B1 := Lib.hid ((Below.refl _ w).alloc (Nat.le_refl _) (.cells #[.string (ofL nm), .int .i64 k, .int .i64 lo, .int .i64 hi] 158))
  have HTB := Lib.hid (Tb.below (w' := (w.alloc (.cells #[.string (ofL nm), .int .i64 k, .int .i64 lo, .int .i64 hi] 158))) h B1.out)
  have HC := Lib.hid (Bx.new w 158 #[.string (ofL nm), .int .i64 k, .int .i64 lo, .int .i64 hi])
  clear h hn l0 l1 g0 g1
  by_cases hk : k = 2
  · have e1 : (k == 2) = true := by simpa using hk
    have hE : ofL (showFieldB ⟨nm, k, lo, hi⟩) = ofL nm ++ (⟨#[58, 32]⟩ : ByteArray) ++ (⟨#[116, 101, 120, 116, 32]⟩ : ByteArray) ++ ofL (itoaB lo) ++ (⟨#[46, 46]⟩ : ByteArray) ++ ofL (itoaB hi) := by
      unfold showFieldB
      rw [if_pos hk]
      exact (show ofL nm ++ ofL [58, 32] ++ ofL [116, 101, 120, 116, 32] ++ ofL (itoaB lo) ++ ofL [46, 46] ++ ofL (itoaB hi) = _ by rw [ofL_app5, ofL_append]).symm
    rw [hE]
    clear hk hE
    go_enter Tryz.func208, Tryz.ntmps208
    go_wp2_with fail
    refine region_phi (n := 24) (fun i v w' => match i with
          | 0 => v = .pointer (some ⟨w.heap.size, 0, none⟩)
          | 1 => v = .string (ofL nm)
          | 2 => v = .string (ofL nm ++ (⟨#[58, 32]⟩ : ByteArray))
          | 3 => v = .string ((⟨#[116, 101, 120, 116, 32]⟩ : ByteArray))
          | 4 => v = .string (ofL nm ++ (⟨#[58, 32]⟩ : ByteArray) ++ (⟨#[116, 101, 120, 116, 32]⟩ : ByteArray))
          | 5 => v = .pointer (some ⟨w.heap.size, 1, none⟩)
          | 6 => v = .pointer (some ⟨w.heap.size, 2, none⟩)
          | 7 => v = .int .i64 lo
          | 8 => v = .string (ofL (itoaB lo))
          | 9 => v = .string (ofL nm ++ (⟨#[58, 32]⟩ : ByteArray) ++ (⟨#[116, 101, 120, 116, 32]⟩ : ByteArray) ++ ofL (itoaB lo))
          | 10 => v = .string (ofL nm ++ (⟨#[58, 32]⟩ : ByteArray) ++ (⟨#[116, 101, 120, 116, 32]⟩ : ByteArray) ++ ofL (itoaB lo) ++ (⟨#[46, 46]⟩ : ByteArray))
          | 11 => v = .pointer (some ⟨w.heap.size, 1, none⟩)
          | 12 => v = .pointer (some ⟨w.heap.size, 3, none⟩)
          | 13 => v = .int .i64 hi
          | 14 => v = .string (ofL (itoaB hi))
          | 15 => v = .string (ofL nm ++ (⟨#[58, 32]⟩ : ByteArray) ++ (⟨#[116, 101, 120, 116, 32]⟩ : ByteArray) ++ ofL (itoaB lo) ++ (⟨#[46, 46]⟩ : ByteArray) ++ ofL (itoaB hi))
          | 16 => v = .string (ofL nm ++ (⟨#[58, 32]⟩ : ByteArray) ++ (⟨#[116, 101, 120, 116, 32]⟩ : ByteArray) ++ ofL (itoaB lo) ++ (⟨#[46, 46]⟩ : ByteArray) ++ ofL (itoaB hi))
          | _ => True) (by kernel_rfl) (by kernel_rfl) rfl ?_ (allOps_spec ?_) ?_
    · intro i v w w' h hb
      match i, h with
      | 0, h => exact h
      | 1, h => exact h
      | 2, h => exact h
      | 3, h => exact h
      | 4, h => exact h
      | 5, h => exact h
      | 6, h => exact h
      | 7, h => exact h
      | 8, h => exact h
      | 9, h => exact h
      | 10, h => exact h
      | 11, h => exact h
      | 12, h => exact h
      | 13, h => exact h
      | 14, h => exact h
      | 15, h => exact h
      | 16, h => exact h
      | _ + 17, _ => trivial
    · refine ⟨?_, ?_, ?_, ?_, ?_, ?_, ?_, ?_, ?_, ?_, ?_, ?_, ?_, ?_, ?_, ?_, ?_, trivial⟩
      · intro a w' hb hp
        have b1 : a.tmps[1]?.getD undef = .pointer (some ⟨w.heap.size, 0, none⟩) := hb.at 1 (by kernel_rfl)
        exact step_run (v := .pointer (some ⟨w.heap.size, 0, none⟩)) rfl (by simp [execOp, go_sem, b1, Act.eval]) rfl
      · intro a w' hb hp
        have h8 : a.tmps[8]?.getD undef = .pointer (some ⟨w.heap.size, 0, none⟩) := slot_eq.symm.trans (hp ⟨0, .data⟩ (by simp) rfl _ rfl)
        have k0 : w'.cell? ⟨w.heap.size, 0, none⟩ = some (.string (ofL nm)) := (hb.ext.cell (by simp)).trans (HC.out.cell 0)
        exact step_run (v := .string (ofL nm)) rfl (by simp [execOp, go_sem, Act.eval, h8, k0]) rfl
      · intro a w' hb hp
        have h9 : a.tmps[9]?.getD undef = .string (ofL nm) := slot_eq.symm.trans (hp ⟨1, .data⟩ (by simp) rfl _ rfl)
        exact step_run (v := .string (ofL nm ++ (⟨#[58, 32]⟩ : ByteArray))) rfl (by simp [execOp, go_sem, Act.eval, h9]; omega) rfl
      · intro a w' hb hp
        have b3 : a.tmps[3]?.getD undef = .string ((⟨#[116, 101, 120, 116, 32]⟩ : ByteArray)) := hb.at 3 (by kernel_rfl)
        exact step_run (v := .string ((⟨#[116, 101, 120, 116, 32]⟩ : ByteArray))) rfl (by simp [execOp, Act.eval, b3]) rfl
      · intro a w' hb hp
        have h10 : a.tmps[10]?.getD undef = .string (ofL nm ++ (⟨#[58, 32]⟩ : ByteArray)) := slot_eq.symm.trans (hp ⟨2, .data⟩ (by simp) rfl _ rfl)
        have h11 : a.tmps[11]?.getD undef = .string ((⟨#[116, 101, 120, 116, 32]⟩ : ByteArray)) := slot_eq.symm.trans (hp ⟨3, .data⟩ (by simp) rfl _ rfl)
        exact step_run (v := .string (ofL nm ++ (⟨#[58, 32]⟩ : ByteArray) ++ (⟨#[116, 101, 120, 116, 32]⟩ : ByteArray))) rfl (by simp [execOp, go_sem, Act.eval, h10, h11, ByteArray.size_append]; omega) rfl
      · intro a w' hb hp
        have b1 : a.tmps[1]?.getD undef = .pointer (some ⟨w.heap.size, 0, none⟩) := hb.at 1 (by kernel_rfl)
        exact step_run (v := .pointer (some ⟨w.heap.size, 1, none⟩)) rfl (by simp [execOp, go_sem, b1, Act.eval]) rfl
      · intro a w' hb hp
        have h13 : a.tmps[13]?.getD undef = .pointer (some ⟨w.heap.size, 1, none⟩) := slot_eq.symm.trans (hp ⟨5, .data⟩ (by simp) rfl _ rfl)
        exact step_run (v := .pointer (some ⟨w.heap.size, 2, none⟩)) rfl (by simp [execOp, go_sem, h13, Act.eval]) rfl
      · intro a w' hb hp
        have h14 : a.tmps[14]?.getD undef = .pointer (some ⟨w.heap.size, 2, none⟩) := slot_eq.symm.trans (hp ⟨6, .data⟩ (by simp) rfl _ rfl)
        have k2 : w'.cell? ⟨w.heap.size, 2, none⟩ = some (.int .i64 lo) := (hb.ext.cell (by simp)).trans (HC.out.cell 2)
        exact step_run (v := .int .i64 lo) rfl (by simp [execOp, go_sem, Act.eval, h14, k2]) rfl
      · intro a w' hb hp
        have h15 : a.tmps[15]?.getD undef = .int .i64 lo := slot_eq.symm.trans (hp ⟨7, .data⟩ (by simp) rfl _ rfl)
        refine step_call (f := 235) (args := #[.int .i64 lo]) rfl (by simp [go_sem, h15]) ?_
        refine (itoa_any (HTB.out.below hb.ext) lo (by omega) (by omega)).mono ?_
        rintro e w5 ⟨rfl, hb5⟩
        exact ⟨_, rfl, hb5, rfl⟩
      · intro a w' hb hp
        have h12 : a.tmps[12]?.getD undef = .string (ofL nm ++ (⟨#[58, 32]⟩ : ByteArray) ++ (⟨#[116, 101, 120, 116, 32]⟩ : ByteArray)) := slot_eq.symm.trans (hp ⟨4, .data⟩ (by simp) rfl _ rfl)
        have h16 : a.tmps[16]?.getD undef = .string (ofL (itoaB lo)) := slot_eq.symm.trans (hp ⟨8, .data⟩ (by simp) rfl _ rfl)
        exact step_run (v := .string (ofL nm ++ (⟨#[58, 32]⟩ : ByteArray) ++ (⟨#[116, 101, 120, 116, 32]⟩ : ByteArray) ++ ofL (itoaB lo))) rfl (by simp [execOp, go_sem, Act.eval, h12, h16, ByteArray.size_append]; omega) rfl
      · intro a w' hb hp
        have h17 : a.tmps[17]?.getD undef = .string (ofL nm ++ (⟨#[58, 32]⟩ : ByteArray) ++ (⟨#[116, 101, 120, 116, 32]⟩ : ByteArray) ++ ofL (itoaB lo)) := slot_eq.symm.trans (hp ⟨9, .data⟩ (by simp) rfl _ rfl)
        exact step_run (v := .string (ofL nm ++ (⟨#[58, 32]⟩ : ByteArray) ++ (⟨#[116, 101, 120, 116, 32]⟩ : ByteArray) ++ ofL (itoaB lo) ++ (⟨#[46, 46]⟩ : ByteArray))) rfl (by simp [execOp, go_sem, Act.eval, h17, ByteArray.size_append]; omega) rfl
      · intro a w' hb hp
        have b1 : a.tmps[1]?.getD undef = .pointer (some ⟨w.heap.size, 0, none⟩) := hb.at 1 (by kernel_rfl)
        exact step_run (v := .pointer (some ⟨w.heap.size, 1, none⟩)) rfl (by simp [execOp, go_sem, b1, Act.eval]) rfl
      · intro a w' hb hp
        have h19 : a.tmps[19]?.getD undef = .pointer (some ⟨w.heap.size, 1, none⟩) := slot_eq.symm.trans (hp ⟨11, .data⟩ (by simp) rfl _ rfl)
        exact step_run (v := .pointer (some ⟨w.heap.size, 3, none⟩)) rfl (by simp [execOp, go_sem, h19, Act.eval]) rfl
      · intro a w' hb hp
        have h20 : a.tmps[20]?.getD undef = .pointer (some ⟨w.heap.size, 3, none⟩) := slot_eq.symm.trans (hp ⟨12, .data⟩ (by simp) rfl _ rfl)
        have k3 : w'.cell? ⟨w.heap.size, 3, none⟩ = some (.int .i64 hi) := (hb.ext.cell (by simp)).trans (HC.out.cell 3)
        exact step_run (v := .int .i64 hi) rfl (by simp [execOp, go_sem, Act.eval, h20, k3]) rfl
      · intro a w' hb hp
        have h21 : a.tmps[21]?.getD undef = .int .i64 hi := slot_eq.symm.trans (hp ⟨13, .data⟩ (by simp) rfl _ rfl)
        refine step_call (f := 235) (args := #[.int .i64 hi]) rfl (by simp [go_sem, h21]) ?_
        refine (itoa_any (HTB.out.below hb.ext) hi (by omega) (by omega)).mono ?_
        rintro e w5 ⟨rfl, hb5⟩
        exact ⟨_, rfl, hb5, rfl⟩
      · intro a w' hb hp
        have h18 : a.tmps[18]?.getD undef = .string (ofL nm ++ (⟨#[58, 32]⟩ : ByteArray) ++ (⟨#[116, 101, 120, 116, 32]⟩ : ByteArray) ++ ofL (itoaB lo) ++ (⟨#[46, 46]⟩ : ByteArray)) := slot_eq.symm.trans (hp ⟨10, .data⟩ (by simp) rfl _ rfl)
        have h22 : a.tmps[22]?.getD undef = .string (ofL (itoaB hi)) := slot_eq.symm.trans (hp ⟨14, .data⟩ (by simp) rfl _ rfl)
        exact step_run (v := .string (ofL nm ++ (⟨#[58, 32]⟩ : ByteArray) ++ (⟨#[116, 101, 120, 116, 32]⟩ : ByteArray) ++ ofL (itoaB lo) ++ (⟨#[46, 46]⟩ : ByteArray) ++ ofL (itoaB hi))) rfl (by simp [execOp, go_sem, Act.eval, h18, h22, ByteArray.size_append]; omega) rfl
      · intro a w' hb hp
        have h23 : a.tmps[23]?.getD undef = .string (ofL nm ++ (⟨#[58, 32]⟩ : ByteArray) ++ (⟨#[116, 101, 120, 116, 32]⟩ : ByteArray) ++ ofL (itoaB lo) ++ (⟨#[46, 46]⟩ : ByteArray) ++ ofL (itoaB hi)) := slot_eq.symm.trans (hp ⟨15, .data⟩ (by simp) rfl _ rfl)
        exact step_run (v := .string (ofL nm ++ (⟨#[58, 32]⟩ : ByteArray) ++ (⟨#[116, 101, 120, 116, 32]⟩ : ByteArray) ++ ofL (itoaB lo) ++ (⟨#[46, 46]⟩ : ByteArray) ++ ofL (itoaB hi))) rfl (by simp [execOp, Act.eval, h23]) rfl
    · intro vs w' hb hv
      have h16 : vs 16 = .string (ofL nm ++ (⟨#[58, 32]⟩ : ByteArray) ++ (⟨#[116, 101, 120, 116, 32]⟩ : ByteArray) ++ ofL (itoaB lo) ++ (⟨#[46, 46]⟩ : ByteArray) ++ ofL (itoaB hi)) := hv 16 (by decide)
      have HB := Lib.hid (B1.out.trans (hb.mono (by simp)))
      clear hb hv
      simp only [putAll, Act.put, List.setIfInBounds_toArray, List.set_cons_zero, List.set_cons_succ, Nat.zero_add, Nat.reduceAdd, h16]
      clear h16
      go_wp2
      go_ret
      exact ⟨rfl, HB.out⟩
  · have e1 : (k == 2) = false := by simpa using hk
    have hE : ofL (showFieldB ⟨nm, k, lo, hi⟩) = ofL nm ++ (⟨#[58, 32]⟩ : ByteArray) ++ (⟨#[105, 110, 116, 32]⟩ : ByteArray) ++ ofL (itoaB lo) ++ (⟨#[46, 46]⟩ : ByteArray) ++ ofL (itoaB hi) := by
      unfold showFieldB
      rw [if_neg hk]
      exact (show ofL nm ++ ofL [58, 32] ++ ofL [105, 110, 116, 32] ++ ofL (itoaB lo) ++ ofL [46, 46] ++ ofL (itoaB hi) = _ by rw [ofL_app5, ofL_append]).symm
    rw [hE]
    clear hk hE
    go_enter Tryz.func208, Tryz.ntmps208
    go_wp2_with fail
    refine region_phi (n := 24) (fun i v w' => match i with
          | 0 => v = .pointer (some ⟨w.heap.size, 0, none⟩)
          | 1 => v = .string (ofL nm)
          | 2 => v = .string (ofL nm ++ (⟨#[58, 32]⟩ : ByteArray))
          | 3 => v = .string ((⟨#[105, 110, 116, 32]⟩ : ByteArray))
          | 4 => v = .string (ofL nm ++ (⟨#[58, 32]⟩ : ByteArray) ++ (⟨#[105, 110, 116, 32]⟩ : ByteArray))
          | 5 => v = .pointer (some ⟨w.heap.size, 1, none⟩)
          | 6 => v = .pointer (some ⟨w.heap.size, 2, none⟩)
          | 7 => v = .int .i64 lo
          | 8 => v = .string (ofL (itoaB lo))
          | 9 => v = .string (ofL nm ++ (⟨#[58, 32]⟩ : ByteArray) ++ (⟨#[105, 110, 116, 32]⟩ : ByteArray) ++ ofL (itoaB lo))
          | 10 => v = .string (ofL nm ++ (⟨#[58, 32]⟩ : ByteArray) ++ (⟨#[105, 110, 116, 32]⟩ : ByteArray) ++ ofL (itoaB lo) ++ (⟨#[46, 46]⟩ : ByteArray))
          | 11 => v = .pointer (some ⟨w.heap.size, 1, none⟩)
          | 12 => v = .pointer (some ⟨w.heap.size, 3, none⟩)
          | 13 => v = .int .i64 hi
          | 14 => v = .string (ofL (itoaB hi))
          | 15 => v = .string (ofL nm ++ (⟨#[58, 32]⟩ : ByteArray) ++ (⟨#[105, 110, 116, 32]⟩ : ByteArray) ++ ofL (itoaB lo) ++ (⟨#[46, 46]⟩ : ByteArray) ++ ofL (itoaB hi))
          | 16 => v = .string (ofL nm ++ (⟨#[58, 32]⟩ : ByteArray) ++ (⟨#[105, 110, 116, 32]⟩ : ByteArray) ++ ofL (itoaB lo) ++ (⟨#[46, 46]⟩ : ByteArray) ++ ofL (itoaB hi))
          | _ => True) (by kernel_rfl) (by kernel_rfl) rfl ?_ (allOps_spec ?_) ?_
    · intro i v w w' h hb
      match i, h with
      | 0, h => exact h
      | 1, h => exact h
      | 2, h => exact h
      | 3, h => exact h
      | 4, h => exact h
      | 5, h => exact h
      | 6, h => exact h
      | 7, h => exact h
      | 8, h => exact h
      | 9, h => exact h
      | 10, h => exact h
      | 11, h => exact h
      | 12, h => exact h
      | 13, h => exact h
      | 14, h => exact h
      | 15, h => exact h
      | 16, h => exact h
      | _ + 17, _ => trivial
    · refine ⟨?_, ?_, ?_, ?_, ?_, ?_, ?_, ?_, ?_, ?_, ?_, ?_, ?_, ?_, ?_, ?_, ?_, trivial⟩
      · intro a w' hb hp
        have b1 : a.tmps[1]?.getD undef = .pointer (some ⟨w.heap.size, 0, none⟩) := hb.at 1 (by kernel_rfl)
        exact step_run (v := .pointer (some ⟨w.heap.size, 0, none⟩)) rfl (by simp [execOp, go_sem, b1, Act.eval]) rfl
      · intro a w' hb hp
        have h8 : a.tmps[8]?.getD undef = .pointer (some ⟨w.heap.size, 0, none⟩) := slot_eq.symm.trans (hp ⟨0, .data⟩ (by simp) rfl _ rfl)
        have k0 : w'.cell? ⟨w.heap.size, 0, none⟩ = some (.string (ofL nm)) := (hb.ext.cell (by simp)).trans (HC.out.cell 0)
        exact step_run (v := .string (ofL nm)) rfl (by simp [execOp, go_sem, Act.eval, h8, k0]) rfl
      · intro a w' hb hp
        have h9 : a.tmps[9]?.getD undef = .string (ofL nm) := slot_eq.symm.trans (hp ⟨1, .data⟩ (by simp) rfl _ rfl)
        exact step_run (v := .string (ofL nm ++ (⟨#[58, 32]⟩ : ByteArray))) rfl (by simp [execOp, go_sem, Act.eval, h9]; omega) rfl
      · intro a w' hb hp
        have b3 : a.tmps[3]?.getD undef = .string ((⟨#[105, 110, 116, 32]⟩ : ByteArray)) := hb.at 3 (by kernel_rfl)
        exact step_run (v := .string ((⟨#[105, 110, 116, 32]⟩ : ByteArray))) rfl (by simp [execOp, Act.eval, b3]) rfl
      · intro a w' hb hp
        have h10 : a.tmps[10]?.getD undef = .string (ofL nm ++ (⟨#[58, 32]⟩ : ByteArray)) := slot_eq.symm.trans (hp ⟨2, .data⟩ (by simp) rfl _ rfl)
        have h11 : a.tmps[11]?.getD undef = .string ((⟨#[105, 110, 116, 32]⟩ : ByteArray)) := slot_eq.symm.trans (hp ⟨3, .data⟩ (by simp) rfl _ rfl)
        exact step_run (v := .string (ofL nm ++ (⟨#[58, 32]⟩ : ByteArray) ++ (⟨#[105, 110, 116, 32]⟩ : ByteArray))) rfl (by simp [execOp, go_sem, Act.eval, h10, h11, ByteArray.size_append]; omega) rfl
      · intro a w' hb hp
        have b1 : a.tmps[1]?.getD undef = .pointer (some ⟨w.heap.size, 0, none⟩) := hb.at 1 (by kernel_rfl)
        exact step_run (v := .pointer (some ⟨w.heap.size, 1, none⟩)) rfl (by simp [execOp, go_sem, b1, Act.eval]) rfl
      · intro a w' hb hp
        have h13 : a.tmps[13]?.getD undef = .pointer (some ⟨w.heap.size, 1, none⟩) := slot_eq.symm.trans (hp ⟨5, .data⟩ (by simp) rfl _ rfl)
        exact step_run (v := .pointer (some ⟨w.heap.size, 2, none⟩)) rfl (by simp [execOp, go_sem, h13, Act.eval]) rfl
      · intro a w' hb hp
        have h14 : a.tmps[14]?.getD undef = .pointer (some ⟨w.heap.size, 2, none⟩) := slot_eq.symm.trans (hp ⟨6, .data⟩ (by simp) rfl _ rfl)
        have k2 : w'.cell? ⟨w.heap.size, 2, none⟩ = some (.int .i64 lo) := (hb.ext.cell (by simp)).trans (HC.out.cell 2)
        exact step_run (v := .int .i64 lo) rfl (by simp [execOp, go_sem, Act.eval, h14, k2]) rfl
      · intro a w' hb hp
        have h15 : a.tmps[15]?.getD undef = .int .i64 lo := slot_eq.symm.trans (hp ⟨7, .data⟩ (by simp) rfl _ rfl)
        refine step_call (f := 235) (args := #[.int .i64 lo]) rfl (by simp [go_sem, h15]) ?_
        refine (itoa_any (HTB.out.below hb.ext) lo (by omega) (by omega)).mono ?_
        rintro e w5 ⟨rfl, hb5⟩
        exact ⟨_, rfl, hb5, rfl⟩
      · intro a w' hb hp
        have h12 : a.tmps[12]?.getD undef = .string (ofL nm ++ (⟨#[58, 32]⟩ : ByteArray) ++ (⟨#[105, 110, 116, 32]⟩ : ByteArray)) := slot_eq.symm.trans (hp ⟨4, .data⟩ (by simp) rfl _ rfl)
        have h16 : a.tmps[16]?.getD undef = .string (ofL (itoaB lo)) := slot_eq.symm.trans (hp ⟨8, .data⟩ (by simp) rfl _ rfl)
        exact step_run (v := .string (ofL nm ++ (⟨#[58, 32]⟩ : ByteArray) ++ (⟨#[105, 110, 116, 32]⟩ : ByteArray) ++ ofL (itoaB lo))) rfl (by simp [execOp, go_sem, Act.eval, h12, h16, ByteArray.size_append]; omega) rfl
      · intro a w' hb hp
        have h17 : a.tmps[17]?.getD undef = .string (ofL nm ++ (⟨#[58, 32]⟩ : ByteArray) ++ (⟨#[105, 110, 116, 32]⟩ : ByteArray) ++ ofL (itoaB lo)) := slot_eq.symm.trans (hp ⟨9, .data⟩ (by simp) rfl _ rfl)
        exact step_run (v := .string (ofL nm ++ (⟨#[58, 32]⟩ : ByteArray) ++ (⟨#[105, 110, 116, 32]⟩ : ByteArray) ++ ofL (itoaB lo) ++ (⟨#[46, 46]⟩ : ByteArray))) rfl (by simp [execOp, go_sem, Act.eval, h17, ByteArray.size_append]; omega) rfl
      · intro a w' hb hp
        have b1 : a.tmps[1]?.getD undef = .pointer (some ⟨w.heap.size, 0, none⟩) := hb.at 1 (by kernel_rfl)
        exact step_run (v := .pointer (some ⟨w.heap.size, 1, none⟩)) rfl (by simp [execOp, go_sem, b1, Act.eval]) rfl
      · intro a w' hb hp
        have h19 : a.tmps[19]?.getD undef = .pointer (some ⟨w.heap.size, 1, none⟩) := slot_eq.symm.trans (hp ⟨11, .data⟩ (by simp) rfl _ rfl)
        exact step_run (v := .pointer (some ⟨w.heap.size, 3, none⟩)) rfl (by simp [execOp, go_sem, h19, Act.eval]) rfl
      · intro a w' hb hp
        have h20 : a.tmps[20]?.getD undef = .pointer (some ⟨w.heap.size, 3, none⟩) := slot_eq.symm.trans (hp ⟨12, .data⟩ (by simp) rfl _ rfl)
        have k3 : w'.cell? ⟨w.heap.size, 3, none⟩ = some (.int .i64 hi) := (hb.ext.cell (by simp)).trans (HC.out.cell 3)
        exact step_run (v := .int .i64 hi) rfl (by simp [execOp, go_sem, Act.eval, h20, k3]) rfl
      · intro a w' hb hp
        have h21 : a.tmps[21]?.getD undef = .int .i64 hi := slot_eq.symm.trans (hp ⟨13, .data⟩ (by simp) rfl _ rfl)
        refine step_call (f := 235) (args := #[.int .i64 hi]) rfl (by simp [go_sem, h21]) ?_
        refine (itoa_any (HTB.out.below hb.ext) hi (by omega) (by omega)).mono ?_
        rintro e w5 ⟨rfl, hb5⟩
        exact ⟨_, rfl, hb5, rfl⟩
      · intro a w' hb hp
        have h18 : a.tmps[18]?.getD undef = .string (ofL nm ++ (⟨#[58, 32]⟩ : ByteArray) ++ (⟨#[105, 110, 116, 32]⟩ : ByteArray) ++ ofL (itoaB lo) ++ (⟨#[46, 46]⟩ : ByteArray)) := slot_eq.symm.trans (hp ⟨10, .data⟩ (by simp) rfl _ rfl)
        have h22 : a.tmps[22]?.getD undef = .string (ofL (itoaB hi)) := slot_eq.symm.trans (hp ⟨14, .data⟩ (by simp) rfl _ rfl)
        exact step_run (v := .string (ofL nm ++ (⟨#[58, 32]⟩ : ByteArray) ++ (⟨#[105, 110, 116, 32]⟩ : ByteArray) ++ ofL (itoaB lo) ++ (⟨#[46, 46]⟩ : ByteArray) ++ ofL (itoaB hi))) rfl (by simp [execOp, go_sem, Act.eval, h18, h22, ByteArray.size_append]; omega) rfl
      · intro a w' hb hp
        have h23 : a.tmps[23]?.getD undef = .string (ofL nm ++ (⟨#[58, 32]⟩ : ByteArray) ++ (⟨#[105, 110, 116, 32]⟩ : ByteArray) ++ ofL (itoaB lo) ++ (⟨#[46, 46]⟩ : ByteArray) ++ ofL (itoaB hi)) := slot_eq.symm.trans (hp ⟨15, .data⟩ (by simp) rfl _ rfl)
        exact step_run (v := .string (ofL nm ++ (⟨#[58, 32]⟩ : ByteArray) ++ (⟨#[105, 110, 116, 32]⟩ : ByteArray) ++ ofL (itoaB lo) ++ (⟨#[46, 46]⟩ : ByteArray) ++ ofL (itoaB hi))) rfl (by simp [execOp, Act.eval, h23]) rfl
    · intro vs w' hb hv
      have h16 : vs 16 = .string (ofL nm ++ (⟨#[58, 32]⟩ : ByteArray) ++ (⟨#[105, 110, 116, 32]⟩ : ByteArray) ++ ofL (itoaB lo) ++ (⟨#[46, 46]⟩ : ByteArray) ++ ofL (itoaB hi)) := hv 16 (by decide)
      have HB := Lib.hid (B1.out.trans (hb.mono (by simp)))
      clear hb hv
      simp only [putAll, Act.put, List.setIfInBounds_toArray, List.set_cons_zero, List.set_cons_succ, Nat.zero_add, Nat.reduceAdd, h16]
      clear h16
      go_wp2
      go_ret
      exact ⟨rfl, HB.out⟩
end
end Go.Proofs.YtekpefcggikcbaaGreatDoor
