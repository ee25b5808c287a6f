/- A map with keys of three cells (two pointers and a number): the first look-up and the first entry. -/
import Derived.Test.YtpnlojcimeiihaaGreatDoorEqG
import Derived.BigRegion
namespace Go.Proofs.YtpnlojcimeiihaaGreatDoor
/- A map with keys of three cells (two pointers and a number): the first look-up and the first entry. -/
open Go.RowKit

theorem getMap {w : World} {r c : Nat} {es : Array MapEntry} (h : w.heap[r]? = some (.map es c)) : (getObj r).run Tryz.prog w = .ok (.map es c) w := by simp [getObj, Sem.run, h]
theorem setMap {w : World} {r c : Nat} {es : Array MapEntry} (o : Obj) (h : w.heap[r]? = some (.map es c)) : (setObj r o).run Tryz.prog w = .ok () (w.putObj r o) := by simp [setObj, Sem.run, h, World.putObj]
def pairV (a b : Option Addr) (k : Int) : Value := .agg #[.pointer a, .pointer b, .int .i64 k]
set_option maxRecDepth 20000 in
theorem pair_check (em : Bool) (a b : Option Addr) (k : Int) (w : World) : (Instr.checkKey em 10000 225 (pairV a b k)).run Tryz.prog w = .ok () w := by
  show (Instr.checkKey em (9998 + 1 + 1) _ _).run Tryz.prog w = _
  generalize 9998 = n
  unfold pairV
  rw [Instr.checkKey]
  simp [run_underlying Tryz.underlying225, Result.andThen, Instr.checkKey, go_sem]
theorem lookup_first (a b : Option Addr) (k : Int) (w : World) (m c : Nat) (h : w.heap[m]? = some (.map #[] c)) :
    (Instr.lookup 221 (.map (some m)) (pairV a b k) false).run Tryz.prog w = .ok (.bool false) w := by
  simp [Instr.lookup, run_underlying Tryz.underlying221, Result.andThen, getMap h, pair_check, Instr.findKey, run_underlying Tryz.underlying225, Instr.findNow, go_sem]
theorem update_first (a b : Option Addr) (k : Int) (v : Value) (w : World) (m c : Nat) (h : w.heap[m]? = some (.map #[] c)) :
    (Instr.mapUpdate 221 (.map (some m)) (pairV a b k) v).run Tryz.prog w = .ok () (w.putObj m (.map #[⟨pairV a b k, v, c⟩] (c + 1))) := by
  simp [Instr.mapUpdate, run_underlying Tryz.underlying221, Result.andThen, getMap h, pair_check, Instr.findKey, run_underlying Tryz.underlying225, Instr.findNow, setMap _ h]
/- Layer 10: sameItems at items without blocks. -/
open Go.RowKit

/-- What sameHead answers of two items. -/
def hdq : It → It → Bool
  | .mk k1 fr1 to1 nm1 al1 tk1 bl1, .mk k2 fr2 to2 nm2 al2 tk2 bl2 => shB k1 fr1 to1 nm1 al1 tk1 bl1.length k2 fr2 to2 nm2 al2 tk2 bl2.length
def ToOK : It → Prop
  | .mk _ _ to _ _ _ _ => to.length ≤ 1000000000
def NoBl : It → Prop
  | .mk _ _ _ _ _ _ bl => bl = []
theorem make_map (w : World) : (Instr.makeMap 221 none).run Tryz.prog w = .ok (.map (some w.heap.size)) (w.alloc (.map #[] 0)) := by
  simp [Instr.makeMap, go_sem]
theorem ent_sameHead : ∀ args w, (callFunc 168 args).run Tryz.prog w = .ok (.enter 168 args) w := enters_of Tryz.func168 (by kernel_rfl) rfl
def SfRel (w W0 : World) (X Y : List It) (gk : Nat) (v : Value) (wr : World) : Prop :=
  (gk = 1 ∧ v = .slice (some ⟨w.heap.size + 1, 0, none⟩) 1 1 ∧ wr = W0) ∨ (gk = 0 ∧ v = .slice (some ⟨w.heap.size + 1, 0, none⟩) 0 1 ∧ Hid (eqL hdq X Y = true) ∧ Hid (Below w.heap.size w wr))
section
variable {w w' : World} {S : Nat → Prop}
theorem sameHead_q : IsQ2 168 hdq (fun w x v => RIt S w x v ∧ ToOK x) := by
  refine ⟨ent_sameHead, ?_⟩
  rintro w ⟨k1, fr1, to1, nm1, al1, tk1, bl1⟩ v ⟨k2, fr2, to2, nm2, al2, tk2, bl2⟩ u ⟨⟨At1, ct1, Ab1, cb1, rfl, h1⟩, g1⟩ ⟨⟨At2, ct2, Ab2, cb2, rfl, h2⟩, g2⟩
  exact sameHead_any k1 tk1 k2 tk2 fr1 nm1 al1 fr2 nm2 al2 to1 to2 _ _ Ab1 Ab2 bl1.length cb1 bl2.length cb2 h1.1 h2.1 (fun _ => g1)
set_option maxRecDepth 20000 in
set_option maxHeartbeats 8000000 in
theorem sameItems_flat (X Y : List It) (v u : Value) (L : Lies w S v (dB X)) (M : Lies w S u (dB Y)) (hX : ∀ x ∈ X, ToOK x) (hY : ∀ x ∈ Y, ToOK x) (hF : ∀ x ∈ X, NoBl x) (hn : X.length ≤ 1000000000) :
    Calls Tryz.prog 104 #[v, u] w (Tells w (.bool (eqL hdq X Y))) := by
  obtain ⟨A, n, c, rfl, hm⟩ := Lies.slc (show Lies w S v (.s 7 (dIs X)) from L)
  obtain rfl : n = X.length := by (have h1 : n * 7 = (X.flatMap dIt).length := (by rw [dIs_map] at hm; exact hm)); rw [flat_len dIt_len] at h1; omega
  obtain ⟨A2, n, c2, rfl, hm2⟩ := Lies.slc (show Lies w S u (.s 7 (dIs Y)) from M)
  obtain rfl : n = Y.length := by (have h1 : n * 7 = (Y.flatMap dIt).length := (by rw [dIs_map] at hm2; exact hm2)); rw [flat_len dIt_len] at h1; omega
  clear hm hm2
  have hmk := make_map w
  obtain ⟨W0, hW0⟩ : ∃ W, (w.alloc (.map #[] 0)).alloc (.cells #[.slice A X.length c, .slice A2 Y.length c2] 222) = W := ⟨_, rfl⟩
  have B0 := Lib.hid (show Below w.heap.size w W0 by rw [← hW0]; exact ((Below.refl _ w).alloc (Nat.le_refl _) _).alloc (by simp) _)
  have hmp : W0.heap[w.heap.size]? = some (.map #[] 0) := by rw [← hW0]; exact (Below.heap_alloc _ _ _ (by simp)).trans (World.alloc_heap_new w _)
  have X2 := Lib.hid (show Bx W0 (w.heap.size + 1) 222 #[.slice A X.length c, .slice A2 Y.length c2] by rw [← hW0]; exact Bx.new2 (size_alloc _ _))
  have L0 := Lib.hid (show Lies W0 (fun k => S k ∧ k < w.heap.size) (.slice A X.length c) (dB X) from (show Lies w (fun k => S k ∧ k < w.heap.size) (.slice A X.length c) (dB X) from L.mono fun k hk hS => ⟨hS, hk⟩).belowT B0.out)
  have M0 := Lib.hid (show Lies W0 (fun k => S k ∧ k < w.heap.size) (.slice A2 Y.length c2) (dB Y) from (show Lies w (fun k => S k ∧ k < w.heap.size) (.slice A2 Y.length c2) (dB Y) from M.mono fun k hk hS => ⟨hS, hk⟩).belowT B0.out)
  have HX := Lib.hid hX
  have HY := Lib.hid hY
  have HFL := Lib.hid hF
  clear hX hY hF
  have HW0 := Lib.hid hW0
  clear hW0 L M
  go_enter Tryz.func104, Tryz.ntmps104
  go_wp2_with fail
  rw [HW0.out]
  clear hmk
  go_loopg [6] 1 (fun gk vi wr => SfRel w W0 X Y gk vi wr)
  case atStart => exact .inl ⟨rfl, rfl, rfl⟩
  case round =>
    rcases hrel with ⟨rfl, rfl, rfl⟩ | ⟨rfl, rfl, HE, HB⟩
    rotate_left
    · go_wp2_with fail
      go_ret
      exact ⟨by rw [HE.out]; rfl, HB.out⟩
    · have z0 : wr.cell? ⟨w.heap.size + 1, 0, none⟩ = some (.slice A X.length c) := X2.out.cell 0
      have z1 : wr.cell? ⟨w.heap.size + 1, 1, none⟩ = some (.slice A2 Y.length c2) := X2.out.cell 1
      by_cases hlen : X.length = Y.length
      · rw [← hlen] at z1
        have HLN := Lib.hid hlen
        clear hlen
        by_cases hz : X.length = 0
        · have HF := Lib.hid (show eqL hdq X Y = true by
            have h1 : X = [] := List.eq_nil_of_length_eq_zero hz
            have h2 : Y = [] := List.eq_nil_of_length_eq_zero (by rw [← HLN.out]; exact hz)
            rw [h1, h2]; rfl)
          have hz2 : ((X.length : Int) == 0) = true := by rw [beq_iff_eq]; omega
          clear hz
          go_wp2_with fail
          go_region
          go_wp2_with fail
          go_region
          go_wp2_with fail
          go_roundg 0
          case rel => exact .inr ⟨rfl, rfl, HF, B0.out.drew.drew⟩
          case measure => omega
        · have hz2 : ((X.length : Int) == 0) = false := by rw [beq_eq_false_iff_ne]; omega
          have hpos : (0 : Int) < (X.length : Int) := by omega
          obtain ⟨bb, o, n', c', he, hn', -, hbl, hcell⟩ := sl_cell (z := 7) L0.out (by intro e0; have := congrArg List.length (show (X.flatMap dIt) = [] from by rw [← dIs_map]; exact e0); rw [flat_len dIt_len, List.length_nil] at this; omega)
          obtain ⟨bb2, o2, n2', c2', he2, hn2', -, hbl2, hcell2⟩ := sl_cell (z := 7) M0.out (by intro e0; have := congrArg List.length (show (Y.flatMap dIt) = [] from by rw [← dIs_map]; exact e0); rw [flat_len dIt_len, List.length_nil] at this; have := HLN.out; omega)
          simp only [Value.slice.injEq] at he he2
          obtain ⟨rfl, -, rfl⟩ := he
          obtain ⟨rfl, -, rfl⟩ := he2
          have hlk := lookup_first (some ⟨bb, o, none⟩) (some ⟨bb2, o2, none⟩) (X.length : Int) wr.drew.drew w.heap.size 0 hmp
          have hup := update_first (some ⟨bb, o, none⟩) (some ⟨bb2, o2, none⟩) (X.length : Int) (.bool true) wr.drew.drew.drew w.heap.size 0 hmp
          unfold pairV at hlk hup
          have HL := Lib.hid hcell
          have HMP := Lib.hid hmp
          clear hz hcell2 hcell hmp
          go_wp2_with fail
          go_region
          go_wp2_with fail
          go_region
          go_wp2_with fail
          go_region
          go_wp2_with fail
          clear hlk hup
          obtain ⟨W9, hW9⟩ : ∃ W, wr.drew.drew.drew.putObj w.heap.size (.map #[⟨.agg #[.pointer (some ⟨bb, o, none⟩), .pointer (some ⟨bb2, o2, none⟩), .int .i64 (X.length : Int)], .bool true, 0⟩] 1) = W := ⟨_, rfl⟩
          have B9 := Lib.hid (show Below w.heap.size w W9 by
            rw [← hW9]
            exact ⟨B0.out.os, B0.out.tape, B0.out.output, by simpa using B0.out.size, fun k hk => (World.putObj_heap_other (by omega)).trans (B0.out.block k hk)⟩)
          have K9 : ∀ k, k < wr.heap.size → (S k ∧ k < w.heap.size) → W9.heap[k]? = wr.heap[k]? := fun k hk hS => by
            rw [← hW9]; exact World.putObj_heap_other (by omega)
          have S9 : wr.heap.size ≤ W9.heap.size := by rw [← hW9]; simp
          have L9 := Lib.hid (L0.out.keep S9 K9)
          have M9 := Lib.hid (M0.out.keep S9 K9)
          have HW9 := Lib.hid hW9
          clear hW9 K9 S9
          rw [HW9.out]
          rw [← HLN.out] at M9
          have CALL := Lib.hid (eqfI_any 168 hdq ToOK sameHead_q X Y HX.out HY.out _ _ L9.out M9.out (fun _ => hn))
          refine CALL.out.mono ?_; rintro e w10 ⟨rfl, hb10⟩
          have B10 := Lib.hid (B9.out.trans (hb10.mono B9.out.size))
          have L10 := Lib.hid (L9.out.belowT hb10)
          clear hb10 CALL
          cases hq : eqL hdq X Y with
          | false =>
            have HF := Lib.hid hq
            clear hq
            go_wp2_with fail
            go_ret
            exact ⟨by first | rfl | (rw [HF.out]; rfl), B10.out⟩
          | true =>
            have HF := Lib.hid hq
            clear hq
            go_wp2_with fail
            go_loopg [6, 71] X.length (fun gk v6 vi wr => ∃ i : Nat, v6 = .slice (some ⟨w.heap.size + 1, 0, none⟩) 0 1 ∧ vi = .int .i64 (i : Int) ∧ i ≤ X.length ∧ X.length ≤ gk + i ∧ wr = w10)
            case atStart => exact ⟨0, rfl, rfl, by omega, by omega, rfl⟩
            case round =>
              obtain ⟨i, rfl, rfl, hil, hgk, rfl⟩ := hrel
              by_cases hie : i = X.length
              · have hc : ¬ ((i : Int) < (X.length : Int)) := by omega
                clear hie
                go_wp2_with fail
                go_roundg 0
                case rel => exact .inr ⟨rfl, rfl, HF, B10⟩
                case measure => omega
              · have hc : (i : Int) < (X.length : Int) := by omega
                have hlt2 : i < X.length := by omega
                obtain ⟨x, hx⟩ : ∃ x, X[i]? = some x := ⟨X[i], List.getElem?_eq_getElem hlt2⟩
                have hnb := HFL.out x (List.mem_of_getElem? hx)
                obtain ⟨k, fr, to, nm, al, tk, bl⟩ := x
                obtain rfl : bl = [] := hnb
                obtain ⟨bb3, o3, n3', c3', he3, hn3', -, hbl3, hcell3⟩ := sl_cell (z := 7) L10.out (by intro e0; have := congrArg List.length (show (X.flatMap dIt) = [] from by rw [← dIs_map]; exact e0); rw [flat_len dIt_len, List.length_nil] at this; omega)
                simp only [Value.slice.injEq, Option.some.injEq, Addr.mk.injEq] at he3
                obtain ⟨⟨rfl, rfl, -⟩, -, rfl⟩ := he3
                obtain ⟨At, ct, Ab, cb, u0, u1, u2, u3, u4, u5, u6, hI⟩ := it_cells hcell3 hx
                clear hx hcell3 hbl3 hie hI u0 u1 u2 u3 u4 u5
                rw [show ([] : List (List It)).length = 0 from rfl] at u6
                generalize gk = gO at *
                generalize wr = wO at *
                go_wp2_with fail
                go_loopg [6, 80] 0 (fun gk v6 vi wr => v6 = .slice (some ⟨w.heap.size + 1, 0, none⟩) 0 1 ∧ vi = .int .i64 0 ∧ wr = wO)
                case atStart => exact ⟨rfl, rfl, rfl⟩
                case round =>
                  obtain ⟨rfl, rfl, rfl⟩ := hrel
                  go_wp2_with fail
                  go_roundg (gO - 1)
                  case rel => exact ⟨i + 1, rfl, by simp, by omega, by omega, rfl⟩
                  case measure => omega
      · have HF := Lib.hid (show eqL hdq X Y = false from eqL_len hlen)
        have e1 : ((X.length : Int) == (Y.length : Int)) = false := by rw [beq_eq_false_iff_ne]; omega
        clear hlen
        go_wp2_with fail
        go_region
        go_wp2_with fail
        all_goals
          go_ret
          exact ⟨by rw [HF.out]; rfl, B0.out.drew⟩
end
/- Layer 10: the contracts of sameMessage, sameProtocol and Equal, at protocols whose items have no blocks. -/
open Go.RowKit

def msq (x y : Ms) : Bool := decide (x.nm = y.nm) && (decide (x.fs = y.fs) && decide (x.wh = y.wh))
def prq (x y : Pr) : Bool := decide (x.nm = y.nm) && (decide (x.rs = y.rs) && (eqL msq x.ms y.ms && eqL hdq x.bd y.bd))
def GM (m : Ms) : Prop := m.fs.length ≤ 1000000000 ∧ m.wh.length ≤ 1000000000
structure GP (p : Pr) : Prop where
 rs : p.rs.length ≤ 1000000000
 ml : p.ms.length ≤ 1000000000
 ms : ∀ m ∈ p.ms, GM m
 bl : p.bd.length ≤ 1000000000
 bt : ∀ x ∈ p.bd, ToOK x
 bf : ∀ x ∈ p.bd, NoBl x
theorem ent_sameMessage : ∀ args w, (callFunc 103 args).run Tryz.prog w = .ok (.enter 103 args) w := enters_of Tryz.func103 (by kernel_rfl) rfl
theorem ent_sameProtocol : ∀ args w, (callFunc 59 args).run Tryz.prog w = .ok (.enter 59 args) w := enters_of Tryz.func59 (by kernel_rfl) rfl
section
variable {w w' : World} {S T : Nat → Prop}
set_option maxHeartbeats 8000000 in
theorem sameMessage_q : IsQ2 103 msq (fun w x v => RMs S w x v ∧ GM x) := by
 refine ⟨ent_sameMessage, ?_⟩
 rintro w ⟨nm1, fs1, wh1⟩ v ⟨nm2, fs2, wh2⟩ u ⟨⟨v1, v3, rfl, L1, L3⟩, g1, g2⟩ ⟨⟨v2, v4, rfl, L2, L4⟩, -⟩
 have HG1 := Lib.hid (show fs1.length ≤ 1000000000 from g1)
 have HG2 := Lib.hid (show wh1.length ≤ 1000000000 from g2)
 clear g1 g2
 obtain ⟨A1, n1, c1, rfl, -⟩ := L1.slc
 obtain ⟨A2, n2, c2, rfl, -⟩ := L2.slc
 obtain ⟨A3, n3, c3, rfl, -⟩ := L3.slc
 obtain ⟨A4, n4, c4, rfl, -⟩ := L4.slc
 replace L1 : Lies w S (.slice A1 n1 c1) (.s 4 (fs1.flatMap dF)) := L1
 replace L2 : Lies w S (.slice A2 n2 c2) (.s 4 (fs2.flatMap dF)) := L2
 replace L3 : Lies w S (.slice A3 n3 c3) (.s 9 (wh1.flatMap dA)) := L3
 replace L4 : Lies w S (.slice A4 n4 c4) (.s 9 (wh2.flatMap dA)) := L4
 obtain ⟨W0, hW0⟩ : ∃ W, (w.alloc (.cells #[.string (ofL nm1), .slice A1 n1 c1, .slice A3 n3 c3] 74)).alloc (.cells #[.string (ofL nm2), .slice A2 n2 c2, .slice A4 n4 c4] 74) = W := ⟨_, rfl⟩
 have B1 := Lib.hid (show Below w.heap.size w W0 by rw [← hW0]; exact ((Below.refl _ w).alloc (Nat.le_refl _) _).alloc (by simp) _)
 have X1 := Lib.hid (show Bx W0 w.heap.size 74 #[.string (ofL nm1), .slice A1 n1 c1, .slice A3 n3 c3] by rw [← hW0]; exact (Bx.new w _ _).alloc _)
 have X2 := Lib.hid (show Bx W0 (w.heap.size + 1) 74 #[.string (ofL nm2), .slice A2 n2 c2, .slice A4 n4 c4] by rw [← hW0]; exact Bx.new2 (size_alloc _ _))
 have HW0 := Lib.hid hW0
 clear hW0
 have p0 : W0.cell? ⟨w.heap.size, 0, none⟩ = some (.string (ofL nm1)) := X1.out.cell 0
 have p1 : W0.cell? ⟨w.heap.size, 1, none⟩ = some (.slice A1 n1 c1) := X1.out.cell 1
 have p2 : W0.cell? ⟨w.heap.size, 2, none⟩ = some (.slice A3 n3 c3) := X1.out.cell 2
 have q0 : W0.cell? ⟨w.heap.size + 1, 0, none⟩ = some (.string (ofL nm2)) := X2.out.cell 0
 have q1 : W0.cell? ⟨w.heap.size + 1, 1, none⟩ = some (.slice A2 n2 c2) := X2.out.cell 1
 have q2 : W0.cell? ⟨w.heap.size + 1, 2, none⟩ = some (.slice A4 n4 c4) := X2.out.cell 2
 have N0 := Lib.hid (L1.belowT B1.out)
 have N1 := Lib.hid (L2.belowT B1.out)
 have N2 := Lib.hid (L3.belowT B1.out)
 have N3 := Lib.hid (L4.belowT B1.out)
 clear L1 L2 L3 L4
 have hs1 : (ofL nm1).toList = nm1 := ofL_toList nm1
 have hs2 : (ofL nm2).toList = nm2 := ofL_toList nm2
 by_cases g0 : nm1 = nm2
 rotate_left
 ·have H := Lib.hid (show false = msq ⟨nm1, fs1, wh1⟩ ⟨nm2, fs2, wh2⟩ by simp [msq, g0])
  have e0 : (nm1 == nm2) = false := by rw [beq_eq_false_iff_ne]; exact g0
  clear g0
  go_enter Tryz.func103, Tryz.ntmps103
  go_wp2_with fail
  go_ret
  exact ⟨by rw [H.out]; rfl, by rw [HW0.out]; exact B1.out⟩
 have e0 : (nm1 == nm2) = true := by rw [beq_iff_eq]; exact g0
 cases hc0 : decide (fs1 = fs2) with
 | false =>
  have H := Lib.hid (show false = msq ⟨nm1, fs1, wh1⟩ ⟨nm2, fs2, wh2⟩ by simp [msq, hc0])
  have HC0 := Lib.hid hc0
  clear g0 hc0
  go_enter Tryz.func103, Tryz.ntmps103
  go_wp2_with fail
  try rw [HW0.out]
  refine (fdsEq_any fs1 fs2 _ _ N0.out N1.out (fun _ => HG1.out)).mono ?_; rintro e w10 ⟨rfl, hb10⟩; rw [HC0.out]
  have B10 := Lib.hid (B1.out.trans (hb10.mono B1.out.size))
  have G10 := Lib.hid hb10
  have Y1 := X1.out.below G10.out
  have Y2 := X2.out.below G10.out
  have r0_0 : w10.cell? ⟨w.heap.size, 0, none⟩ = some (.string (ofL nm1)) := Y1.cell 0
  have r0_1 : w10.cell? ⟨w.heap.size, 1, none⟩ = some (.slice A1 n1 c1) := Y1.cell 1
  have r0_2 : w10.cell? ⟨w.heap.size, 2, none⟩ = some (.slice A3 n3 c3) := Y1.cell 2
  have t0_0 : w10.cell? ⟨w.heap.size + 1, 0, none⟩ = some (.string (ofL nm2)) := Y2.cell 0
  have t0_1 : w10.cell? ⟨w.heap.size + 1, 1, none⟩ = some (.slice A2 n2 c2) := Y2.cell 1
  have t0_2 : w10.cell? ⟨w.heap.size + 1, 2, none⟩ = some (.slice A4 n4 c4) := Y2.cell 2
  clear Y1 Y2 hb10
  go_wp2_with fail
  go_ret
  exact ⟨by rw [H.out]; rfl, B10.out⟩
 | true =>
  cases hc1 : decide (wh1 = wh2) with
  | false =>
   have H := Lib.hid (show false = msq ⟨nm1, fs1, wh1⟩ ⟨nm2, fs2, wh2⟩ by simp [msq, hc1])
   have HC0 := Lib.hid hc0
   have HC1 := Lib.hid hc1
   clear g0 hc0 hc1
   go_enter Tryz.func103, Tryz.ntmps103
   go_wp2_with fail
   try rw [HW0.out]
   refine (fdsEq_any fs1 fs2 _ _ N0.out N1.out (fun _ => HG1.out)).mono ?_; rintro e w10 ⟨rfl, hb10⟩; rw [HC0.out]
   have B10 := Lib.hid (B1.out.trans (hb10.mono B1.out.size))
   have G10 := Lib.hid hb10
   have Y1 := X1.out.below G10.out
   have Y2 := X2.out.below G10.out
   have r0_0 : w10.cell? ⟨w.heap.size, 0, none⟩ = some (.string (ofL nm1)) := Y1.cell 0
   have r0_1 : w10.cell? ⟨w.heap.size, 1, none⟩ = some (.slice A1 n1 c1) := Y1.cell 1
   have r0_2 : w10.cell? ⟨w.heap.size, 2, none⟩ = some (.slice A3 n3 c3) := Y1.cell 2
   have t0_0 : w10.cell? ⟨w.heap.size + 1, 0, none⟩ = some (.string (ofL nm2)) := Y2.cell 0
   have t0_1 : w10.cell? ⟨w.heap.size + 1, 1, none⟩ = some (.slice A2 n2 c2) := Y2.cell 1
   have t0_2 : w10.cell? ⟨w.heap.size + 1, 2, none⟩ = some (.slice A4 n4 c4) := Y2.cell 2
   clear Y1 Y2 hb10
   go_wp2_with fail
   refine (amsEq_any wh1 wh2 _ _ (N2.out.belowT G10.out) (N3.out.belowT G10.out) (fun _ => HG2.out)).mono ?_; rintro e w11 ⟨rfl, hb11⟩; rw [HC1.out]
   have B11 := Lib.hid (B10.out.trans (hb11.mono B10.out.size))
   have G11 := Lib.hid (G10.out.trans (hb11.mono G10.out.size))
   have Y1 := X1.out.below G11.out
   have Y2 := X2.out.below G11.out
   have r1_0 : w11.cell? ⟨w.heap.size, 0, none⟩ = some (.string (ofL nm1)) := Y1.cell 0
   have r1_1 : w11.cell? ⟨w.heap.size, 1, none⟩ = some (.slice A1 n1 c1) := Y1.cell 1
   have r1_2 : w11.cell? ⟨w.heap.size, 2, none⟩ = some (.slice A3 n3 c3) := Y1.cell 2
   have t1_0 : w11.cell? ⟨w.heap.size + 1, 0, none⟩ = some (.string (ofL nm2)) := Y2.cell 0
   have t1_1 : w11.cell? ⟨w.heap.size + 1, 1, none⟩ = some (.slice A2 n2 c2) := Y2.cell 1
   have t1_2 : w11.cell? ⟨w.heap.size + 1, 2, none⟩ = some (.slice A4 n4 c4) := Y2.cell 2
   clear Y1 Y2 hb11
   go_wp2_with fail
   go_ret
   exact ⟨by rw [H.out]; rfl, B11.out⟩
  | true =>
   have H := Lib.hid (show true = msq ⟨nm1, fs1, wh1⟩ ⟨nm2, fs2, wh2⟩ by simp [msq, g0, hc0, hc1])
   have HC0 := Lib.hid hc0
   have HC1 := Lib.hid hc1
   clear g0 hc0 hc1
   go_enter Tryz.func103, Tryz.ntmps103
   go_wp2_with fail
   try rw [HW0.out]
   refine (fdsEq_any fs1 fs2 _ _ N0.out N1.out (fun _ => HG1.out)).mono ?_; rintro e w10 ⟨rfl, hb10⟩; rw [HC0.out]
   have B10 := Lib.hid (B1.out.trans (hb10.mono B1.out.size))
   have G10 := Lib.hid hb10
   have Y1 := X1.out.below G10.out
   have Y2 := X2.out.below G10.out
   have r0_0 : w10.cell? ⟨w.heap.size, 0, none⟩ = some (.string (ofL nm1)) := Y1.cell 0
   have r0_1 : w10.cell? ⟨w.heap.size, 1, none⟩ = some (.slice A1 n1 c1) := Y1.cell 1
   have r0_2 : w10.cell? ⟨w.heap.size, 2, none⟩ = some (.slice A3 n3 c3) := Y1.cell 2
   have t0_0 : w10.cell? ⟨w.heap.size + 1, 0, none⟩ = some (.string (ofL nm2)) := Y2.cell 0
   have t0_1 : w10.cell? ⟨w.heap.size + 1, 1, none⟩ = some (.slice A2 n2 c2) := Y2.cell 1
   have t0_2 : w10.cell? ⟨w.heap.size + 1, 2, none⟩ = some (.slice A4 n4 c4) := Y2.cell 2
   clear Y1 Y2 hb10
   go_wp2_with fail
   refine (amsEq_any wh1 wh2 _ _ (N2.out.belowT G10.out) (N3.out.belowT G10.out) (fun _ => HG2.out)).mono ?_; rintro e w11 ⟨rfl, hb11⟩; rw [HC1.out]
   have B11 := Lib.hid (B10.out.trans (hb11.mono B10.out.size))
   have G11 := Lib.hid (G10.out.trans (hb11.mono G10.out.size))
   have Y1 := X1.out.below G11.out
   have Y2 := X2.out.below G11.out
   have r1_0 : w11.cell? ⟨w.heap.size, 0, none⟩ = some (.string (ofL nm1)) := Y1.cell 0
   have r1_1 : w11.cell? ⟨w.heap.size, 1, none⟩ = some (.slice A1 n1 c1) := Y1.cell 1
   have r1_2 : w11.cell? ⟨w.heap.size, 2, none⟩ = some (.slice A3 n3 c3) := Y1.cell 2
   have t1_0 : w11.cell? ⟨w.heap.size + 1, 0, none⟩ = some (.string (ofL nm2)) := Y2.cell 0
   have t1_1 : w11.cell? ⟨w.heap.size + 1, 1, none⟩ = some (.slice A2 n2 c2) := Y2.cell 1
   have t1_2 : w11.cell? ⟨w.heap.size + 1, 2, none⟩ = some (.slice A4 n4 c4) := Y2.cell 2
   clear Y1 Y2 hb11
   go_wp2_with fail
   go_ret
   exact ⟨by rw [H.out]; rfl, B11.out⟩
set_option maxHeartbeats 8000000 in
theorem sameProtocol_q : IsQ2 59 prq (fun w x v => RPr S w x v ∧ GP x) := by
 refine ⟨ent_sameProtocol, ?_⟩
 rintro w ⟨nm1, rs1, ms1, bd1⟩ v ⟨nm2, rs2, ms2, bd2⟩ u ⟨⟨v1, v3, v5, rfl, L1, L3, L5⟩, g1⟩ ⟨⟨v2, v4, v6, rfl, L2, L4, L6⟩, g2⟩
 have HG1 := Lib.hid g1
 have HG2 := Lib.hid g2
 clear g1 g2
 obtain ⟨A1, n1, c1, rfl, -⟩ := Lies.slc (show Lies w S v1 (.s 1 (rs1.flatMap fun x => [dS x])) from L1)
 obtain ⟨A2, n2, c2, rfl, -⟩ := Lies.slc (show Lies w S v2 (.s 1 (rs2.flatMap fun x => [dS x])) from L2)
 obtain ⟨A3, n3, c3, rfl, -⟩ := Lies.slc (show Lies w S v3 (.s 3 (ms1.flatMap dM)) from L3)
 obtain ⟨A4, n4, c4, rfl, -⟩ := Lies.slc (show Lies w S v4 (.s 3 (ms2.flatMap dM)) from L4)
 obtain ⟨A5, n5, c5, rfl, -⟩ := Lies.slc (show Lies w S v5 (.s 7 (dIs bd1)) from L5)
 obtain ⟨A6, n6, c6, rfl, -⟩ := Lies.slc (show Lies w S v6 (.s 7 (dIs bd2)) from L6)
 replace L1 : Lies w S (.slice A1 n1 c1) (dL rs1) := L1
 replace L2 : Lies w S (.slice A2 n2 c2) (dL rs2) := L2
 replace L3 : Lies w S (.slice A3 n3 c3) (.s 3 (ms1.flatMap dM)) := L3
 replace L4 : Lies w S (.slice A4 n4 c4) (.s 3 (ms2.flatMap dM)) := L4
 replace L5 : Lies w S (.slice A5 n5 c5) (dB bd1) := L5
 replace L6 : Lies w S (.slice A6 n6 c6) (dB bd2) := L6
 obtain ⟨W0, hW0⟩ : ∃ W, (w.alloc (.cells #[.string (ofL nm1), .slice A1 n1 c1, .slice A3 n3 c3, .slice A5 n5 c5] 59)).alloc (.cells #[.string (ofL nm2), .slice A2 n2 c2, .slice A4 n4 c4, .slice A6 n6 c6] 59) = W := ⟨_, rfl⟩
 have B1 := Lib.hid (show Below w.heap.size w W0 by rw [← hW0]; exact ((Below.refl _ w).alloc (Nat.le_refl _) _).alloc (by simp) _)
 have X1 := Lib.hid (show Bx W0 w.heap.size 59 #[.string (ofL nm1), .slice A1 n1 c1, .slice A3 n3 c3, .slice A5 n5 c5] by rw [← hW0]; exact (Bx.new w _ _).alloc _)
 have X2 := Lib.hid (show Bx W0 (w.heap.size + 1) 59 #[.string (ofL nm2), .slice A2 n2 c2, .slice A4 n4 c4, .slice A6 n6 c6] by rw [← hW0]; exact Bx.new2 (size_alloc _ _))
 have HW0 := Lib.hid hW0
 clear hW0
 have p0 : W0.cell? ⟨w.heap.size, 0, none⟩ = some (.string (ofL nm1)) := X1.out.cell 0
 have p1 : W0.cell? ⟨w.heap.size, 1, none⟩ = some (.slice A1 n1 c1) := X1.out.cell 1
 have p2 : W0.cell? ⟨w.heap.size, 2, none⟩ = some (.slice A3 n3 c3) := X1.out.cell 2
 have p3 : W0.cell? ⟨w.heap.size, 3, none⟩ = some (.slice A5 n5 c5) := X1.out.cell 3
 have q0 : W0.cell? ⟨w.heap.size + 1, 0, none⟩ = some (.string (ofL nm2)) := X2.out.cell 0
 have q1 : W0.cell? ⟨w.heap.size + 1, 1, none⟩ = some (.slice A2 n2 c2) := X2.out.cell 1
 have q2 : W0.cell? ⟨w.heap.size + 1, 2, none⟩ = some (.slice A4 n4 c4) := X2.out.cell 2
 have q3 : W0.cell? ⟨w.heap.size + 1, 3, none⟩ = some (.slice A6 n6 c6) := X2.out.cell 3
 have N0 := Lib.hid (L1.belowT B1.out)
 have N1 := Lib.hid (L2.belowT B1.out)
 have N2 := Lib.hid (L3.belowT B1.out)
 have N3 := Lib.hid (L4.belowT B1.out)
 have N4 := Lib.hid (L5.belowT B1.out)
 have N5 := Lib.hid (L6.belowT B1.out)
 clear L1 L2 L3 L4 L5 L6
 have hs1 : (ofL nm1).toList = nm1 := ofL_toList nm1
 have hs2 : (ofL nm2).toList = nm2 := ofL_toList nm2
 by_cases g0 : nm1 = nm2
 rotate_left
 ·have H := Lib.hid (show false = prq ⟨nm1, rs1, ms1, bd1⟩ ⟨nm2, rs2, ms2, bd2⟩ by simp [prq, g0])
  have e0 : (nm1 == nm2) = false := by rw [beq_eq_false_iff_ne]; exact g0
  clear g0
  go_enter Tryz.func59, Tryz.ntmps59
  go_wp2_with fail
  go_ret
  exact ⟨by rw [H.out]; rfl, by rw [HW0.out]; exact B1.out⟩
 have e0 : (nm1 == nm2) = true := by rw [beq_iff_eq]; exact g0
 cases hc0 : decide (rs1 = rs2) with
 | false =>
  have H := Lib.hid (show false = prq ⟨nm1, rs1, ms1, bd1⟩ ⟨nm2, rs2, ms2, bd2⟩ by simp [prq, hc0])
  have HC0 := Lib.hid hc0
  clear g0 hc0
  go_enter Tryz.func59, Tryz.ntmps59
  go_wp2_with fail
  try rw [HW0.out]
  refine (strsEq_any rs1 rs2 _ _ N0.out N1.out (fun _ => HG1.out.rs)).mono ?_; rintro e w10 ⟨rfl, hb10⟩; rw [HC0.out]
  have B10 := Lib.hid (B1.out.trans (hb10.mono B1.out.size))
  have G10 := Lib.hid hb10
  have Y1 := X1.out.below G10.out
  have Y2 := X2.out.below G10.out
  have r0_0 : w10.cell? ⟨w.heap.size, 0, none⟩ = some (.string (ofL nm1)) := Y1.cell 0
  have r0_1 : w10.cell? ⟨w.heap.size, 1, none⟩ = some (.slice A1 n1 c1) := Y1.cell 1
  have r0_2 : w10.cell? ⟨w.heap.size, 2, none⟩ = some (.slice A3 n3 c3) := Y1.cell 2
  have r0_3 : w10.cell? ⟨w.heap.size, 3, none⟩ = some (.slice A5 n5 c5) := Y1.cell 3
  have t0_0 : w10.cell? ⟨w.heap.size + 1, 0, none⟩ = some (.string (ofL nm2)) := Y2.cell 0
  have t0_1 : w10.cell? ⟨w.heap.size + 1, 1, none⟩ = some (.slice A2 n2 c2) := Y2.cell 1
  have t0_2 : w10.cell? ⟨w.heap.size + 1, 2, none⟩ = some (.slice A4 n4 c4) := Y2.cell 2
  have t0_3 : w10.cell? ⟨w.heap.size + 1, 3, none⟩ = some (.slice A6 n6 c6) := Y2.cell 3
  clear Y1 Y2 hb10
  go_wp2_with fail
  go_ret
  exact ⟨by rw [H.out]; rfl, B10.out⟩
 | true =>
  cases hc1 : eqL msq ms1 ms2 with
  | false =>
   have H := Lib.hid (show false = prq ⟨nm1, rs1, ms1, bd1⟩ ⟨nm2, rs2, ms2, bd2⟩ by simp [prq, hc1])
   have HC0 := Lib.hid hc0
   have HC1 := Lib.hid hc1
   clear g0 hc0 hc1
   go_enter Tryz.func59, Tryz.ntmps59
   go_wp2_with fail
   try rw [HW0.out]
   refine (strsEq_any rs1 rs2 _ _ N0.out N1.out (fun _ => HG1.out.rs)).mono ?_; rintro e w10 ⟨rfl, hb10⟩; rw [HC0.out]
   have B10 := Lib.hid (B1.out.trans (hb10.mono B1.out.size))
   have G10 := Lib.hid hb10
   have Y1 := X1.out.below G10.out
   have Y2 := X2.out.below G10.out
   have r0_0 : w10.cell? ⟨w.heap.size, 0, none⟩ = some (.string (ofL nm1)) := Y1.cell 0
   have r0_1 : w10.cell? ⟨w.heap.size, 1, none⟩ = some (.slice A1 n1 c1) := Y1.cell 1
   have r0_2 : w10.cell? ⟨w.heap.size, 2, none⟩ = some (.slice A3 n3 c3) := Y1.cell 2
   have r0_3 : w10.cell? ⟨w.heap.size, 3, none⟩ = some (.slice A5 n5 c5) := Y1.cell 3
   have t0_0 : w10.cell? ⟨w.heap.size + 1, 0, none⟩ = some (.string (ofL nm2)) := Y2.cell 0
   have t0_1 : w10.cell? ⟨w.heap.size + 1, 1, none⟩ = some (.slice A2 n2 c2) := Y2.cell 1
   have t0_2 : w10.cell? ⟨w.heap.size + 1, 2, none⟩ = some (.slice A4 n4 c4) := Y2.cell 2
   have t0_3 : w10.cell? ⟨w.heap.size + 1, 3, none⟩ = some (.slice A6 n6 c6) := Y2.cell 3
   clear Y1 Y2 hb10
   go_wp2_with fail
   refine (eqfM_any 103 msq GM sameMessage_q ms1 ms2 HG1.out.ms HG2.out.ms _ _ (N2.out.belowT G10.out) (N3.out.belowT G10.out) (fun _ => HG1.out.ml)).mono ?_; rintro e w11 ⟨rfl, hb11⟩; rw [HC1.out]
   have B11 := Lib.hid (B10.out.trans (hb11.mono B10.out.size))
   have G11 := Lib.hid (G10.out.trans (hb11.mono G10.out.size))
   have Y1 := X1.out.below G11.out
   have Y2 := X2.out.below G11.out
   have r1_0 : w11.cell? ⟨w.heap.size, 0, none⟩ = some (.string (ofL nm1)) := Y1.cell 0
   have r1_1 : w11.cell? ⟨w.heap.size, 1, none⟩ = some (.slice A1 n1 c1) := Y1.cell 1
   have r1_2 : w11.cell? ⟨w.heap.size, 2, none⟩ = some (.slice A3 n3 c3) := Y1.cell 2
   have r1_3 : w11.cell? ⟨w.heap.size, 3, none⟩ = some (.slice A5 n5 c5) := Y1.cell 3
   have t1_0 : w11.cell? ⟨w.heap.size + 1, 0, none⟩ = some (.string (ofL nm2)) := Y2.cell 0
   have t1_1 : w11.cell? ⟨w.heap.size + 1, 1, none⟩ = some (.slice A2 n2 c2) := Y2.cell 1
   have t1_2 : w11.cell? ⟨w.heap.size + 1, 2, none⟩ = some (.slice A4 n4 c4) := Y2.cell 2
   have t1_3 : w11.cell? ⟨w.heap.size + 1, 3, none⟩ = some (.slice A6 n6 c6) := Y2.cell 3
   clear Y1 Y2 hb11
   go_wp2_with fail
   go_ret
   exact ⟨by rw [H.out]; rfl, B11.out⟩
  | true =>
   cases hc2 : eqL hdq bd1 bd2 with
   | false =>
    have H := Lib.hid (show false = prq ⟨nm1, rs1, ms1, bd1⟩ ⟨nm2, rs2, ms2, bd2⟩ by simp [prq, hc2])
    have HC0 := Lib.hid hc0
    have HC1 := Lib.hid hc1
    have HC2 := Lib.hid hc2
    clear g0 hc0 hc1 hc2
    go_enter Tryz.func59, Tryz.ntmps59
    go_wp2_with fail
    try rw [HW0.out]
    refine (strsEq_any rs1 rs2 _ _ N0.out N1.out (fun _ => HG1.out.rs)).mono ?_; rintro e w10 ⟨rfl, hb10⟩; rw [HC0.out]
    have B10 := Lib.hid (B1.out.trans (hb10.mono B1.out.size))
    have G10 := Lib.hid hb10
    have Y1 := X1.out.below G10.out
    have Y2 := X2.out.below G10.out
    have r0_0 : w10.cell? ⟨w.heap.size, 0, none⟩ = some (.string (ofL nm1)) := Y1.cell 0
    have r0_1 : w10.cell? ⟨w.heap.size, 1, none⟩ = some (.slice A1 n1 c1) := Y1.cell 1
    have r0_2 : w10.cell? ⟨w.heap.size, 2, none⟩ = some (.slice A3 n3 c3) := Y1.cell 2
    have r0_3 : w10.cell? ⟨w.heap.size, 3, none⟩ = some (.slice A5 n5 c5) := Y1.cell 3
    have t0_0 : w10.cell? ⟨w.heap.size + 1, 0, none⟩ = some (.string (ofL nm2)) := Y2.cell 0
    have t0_1 : w10.cell? ⟨w.heap.size + 1, 1, none⟩ = some (.slice A2 n2 c2) := Y2.cell 1
    have t0_2 : w10.cell? ⟨w.heap.size + 1, 2, none⟩ = some (.slice A4 n4 c4) := Y2.cell 2
    have t0_3 : w10.cell? ⟨w.heap.size + 1, 3, none⟩ = some (.slice A6 n6 c6) := Y2.cell 3
    clear Y1 Y2 hb10
    go_wp2_with fail
    refine (eqfM_any 103 msq GM sameMessage_q ms1 ms2 HG1.out.ms HG2.out.ms _ _ (N2.out.belowT G10.out) (N3.out.belowT G10.out) (fun _ => HG1.out.ml)).mono ?_; rintro e w11 ⟨rfl, hb11⟩; rw [HC1.out]
    have B11 := Lib.hid (B10.out.trans (hb11.mono B10.out.size))
    have G11 := Lib.hid (G10.out.trans (hb11.mono G10.out.size))
    have Y1 := X1.out.below G11.out
    have Y2 := X2.out.below G11.out
    have r1_0 : w11.cell? ⟨w.heap.size, 0, none⟩ = some (.string (ofL nm1)) := Y1.cell 0
    have r1_1 : w11.cell? ⟨w.heap.size, 1, none⟩ = some (.slice A1 n1 c1) := Y1.cell 1
    have r1_2 : w11.cell? ⟨w.heap.size, 2, none⟩ = some (.slice A3 n3 c3) := Y1.cell 2
    have r1_3 : w11.cell? ⟨w.heap.size, 3, none⟩ = some (.slice A5 n5 c5) := Y1.cell 3
    have t1_0 : w11.cell? ⟨w.heap.size + 1, 0, none⟩ = some (.string (ofL nm2)) := Y2.cell 0
    have t1_1 : w11.cell? ⟨w.heap.size + 1, 1, none⟩ = some (.slice A2 n2 c2) := Y2.cell 1
    have t1_2 : w11.cell? ⟨w.heap.size + 1, 2, none⟩ = some (.slice A4 n4 c4) := Y2.cell 2
    have t1_3 : w11.cell? ⟨w.heap.size + 1, 3, none⟩ = some (.slice A6 n6 c6) := Y2.cell 3
    clear Y1 Y2 hb11
    go_wp2_with fail
    refine (sameItems_flat bd1 bd2 _ _ (N4.out.belowT G11.out) (N5.out.belowT G11.out) HG1.out.bt HG2.out.bt HG1.out.bf HG1.out.bl).mono ?_; rintro e w12 ⟨rfl, hb12⟩; rw [HC2.out]
    have B12 := Lib.hid (B11.out.trans (hb12.mono B11.out.size))
    have G12 := Lib.hid (G11.out.trans (hb12.mono G11.out.size))
    have Y1 := X1.out.below G12.out
    have Y2 := X2.out.below G12.out
    have r2_0 : w12.cell? ⟨w.heap.size, 0, none⟩ = some (.string (ofL nm1)) := Y1.cell 0
    have r2_1 : w12.cell? ⟨w.heap.size, 1, none⟩ = some (.slice A1 n1 c1) := Y1.cell 1
    have r2_2 : w12.cell? ⟨w.heap.size, 2, none⟩ = some (.slice A3 n3 c3) := Y1.cell 2
    have r2_3 : w12.cell? ⟨w.heap.size, 3, none⟩ = some (.slice A5 n5 c5) := Y1.cell 3
    have t2_0 : w12.cell? ⟨w.heap.size + 1, 0, none⟩ = some (.string (ofL nm2)) := Y2.cell 0
    have t2_1 : w12.cell? ⟨w.heap.size + 1, 1, none⟩ = some (.slice A2 n2 c2) := Y2.cell 1
    have t2_2 : w12.cell? ⟨w.heap.size + 1, 2, none⟩ = some (.slice A4 n4 c4) := Y2.cell 2
    have t2_3 : w12.cell? ⟨w.heap.size + 1, 3, none⟩ = some (.slice A6 n6 c6) := Y2.cell 3
    clear Y1 Y2 hb12
    go_wp2_with fail
    go_ret
    exact ⟨by rw [H.out]; rfl, B12.out⟩
   | true =>
    have H := Lib.hid (show true = prq ⟨nm1, rs1, ms1, bd1⟩ ⟨nm2, rs2, ms2, bd2⟩ by simp [prq, g0, hc0, hc1, hc2])
    have HC0 := Lib.hid hc0
    have HC1 := Lib.hid hc1
    have HC2 := Lib.hid hc2
    clear g0 hc0 hc1 hc2
    go_enter Tryz.func59, Tryz.ntmps59
    go_wp2_with fail
    try rw [HW0.out]
    refine (strsEq_any rs1 rs2 _ _ N0.out N1.out (fun _ => HG1.out.rs)).mono ?_; rintro e w10 ⟨rfl, hb10⟩; rw [HC0.out]
    have B10 := Lib.hid (B1.out.trans (hb10.mono B1.out.size))
    have G10 := Lib.hid hb10
    have Y1 := X1.out.below G10.out
    have Y2 := X2.out.below G10.out
    have r0_0 : w10.cell? ⟨w.heap.size, 0, none⟩ = some (.string (ofL nm1)) := Y1.cell 0
    have r0_1 : w10.cell? ⟨w.heap.size, 1, none⟩ = some (.slice A1 n1 c1) := Y1.cell 1
    have r0_2 : w10.cell? ⟨w.heap.size, 2, none⟩ = some (.slice A3 n3 c3) := Y1.cell 2
    have r0_3 : w10.cell? ⟨w.heap.size, 3, none⟩ = some (.slice A5 n5 c5) := Y1.cell 3
    have t0_0 : w10.cell? ⟨w.heap.size + 1, 0, none⟩ = some (.string (ofL nm2)) := Y2.cell 0
    have t0_1 : w10.cell? ⟨w.heap.size + 1, 1, none⟩ = some (.slice A2 n2 c2) := Y2.cell 1
    have t0_2 : w10.cell? ⟨w.heap.size + 1, 2, none⟩ = some (.slice A4 n4 c4) := Y2.cell 2
    have t0_3 : w10.cell? ⟨w.heap.size + 1, 3, none⟩ = some (.slice A6 n6 c6) := Y2.cell 3
    clear Y1 Y2 hb10
    go_wp2_with fail
    refine (eqfM_any 103 msq GM sameMessage_q ms1 ms2 HG1.out.ms HG2.out.ms _ _ (N2.out.belowT G10.out) (N3.out.belowT G10.out) (fun _ => HG1.out.ml)).mono ?_; rintro e w11 ⟨rfl, hb11⟩; rw [HC1.out]
    have B11 := Lib.hid (B10.out.trans (hb11.mono B10.out.size))
    have G11 := Lib.hid (G10.out.trans (hb11.mono G10.out.size))
    have Y1 := X1.out.below G11.out
    have Y2 := X2.out.below G11.out
    have r1_0 : w11.cell? ⟨w.heap.size, 0, none⟩ = some (.string (ofL nm1)) := Y1.cell 0
    have r1_1 : w11.cell? ⟨w.heap.size, 1, none⟩ = some (.slice A1 n1 c1) := Y1.cell 1
    have r1_2 : w11.cell? ⟨w.heap.size, 2, none⟩ = some (.slice A3 n3 c3) := Y1.cell 2
    have r1_3 : w11.cell? ⟨w.heap.size, 3, none⟩ = some (.slice A5 n5 c5) := Y1.cell 3
    have t1_0 : w11.cell? ⟨w.heap.size + 1, 0, none⟩ = some (.string (ofL nm2)) := Y2.cell 0
    have t1_1 : w11.cell? ⟨w.heap.size + 1, 1, none⟩ = some (.slice A2 n2 c2) := Y2.cell 1
    have t1_2 : w11.cell? ⟨w.heap.size + 1, 2, none⟩ = some (.slice A4 n4 c4) := Y2.cell 2
    have t1_3 : w11.cell? ⟨w.heap.size + 1, 3, none⟩ = some (.slice A6 n6 c6) := Y2.cell 3
    clear Y1 Y2 hb11
    go_wp2_with fail
    refine (sameItems_flat bd1 bd2 _ _ (N4.out.belowT G11.out) (N5.out.belowT G11.out) HG1.out.bt HG2.out.bt HG1.out.bf HG1.out.bl).mono ?_; rintro e w12 ⟨rfl, hb12⟩; rw [HC2.out]
    have B12 := Lib.hid (B11.out.trans (hb12.mono B11.out.size))
    have G12 := Lib.hid (G11.out.trans (hb12.mono G11.out.size))
    have Y1 := X1.out.below G12.out
    have Y2 := X2.out.below G12.out
    have r2_0 : w12.cell? ⟨w.heap.size, 0, none⟩ = some (.string (ofL nm1)) := Y1.cell 0
    have r2_1 : w12.cell? ⟨w.heap.size, 1, none⟩ = some (.slice A1 n1 c1) := Y1.cell 1
    have r2_2 : w12.cell? ⟨w.heap.size, 2, none⟩ = some (.slice A3 n3 c3) := Y1.cell 2
    have r2_3 : w12.cell? ⟨w.heap.size, 3, none⟩ = some (.slice A5 n5 c5) := Y1.cell 3
    have t2_0 : w12.cell? ⟨w.heap.size + 1, 0, none⟩ = some (.string (ofL nm2)) := Y2.cell 0
    have t2_1 : w12.cell? ⟨w.heap.size + 1, 1, none⟩ = some (.slice A2 n2 c2) := Y2.cell 1
    have t2_2 : w12.cell? ⟨w.heap.size + 1, 2, none⟩ = some (.slice A4 n4 c4) := Y2.cell 2
    have t2_3 : w12.cell? ⟨w.heap.size + 1, 3, none⟩ = some (.slice A6 n6 c6) := Y2.cell 3
    clear Y1 Y2 hb12
    go_wp2_with fail
    go_ret
    exact ⟨by rw [H.out]; rfl, B12.out⟩
set_option maxHeartbeats 4000000 in
theorem equal_flat (l m : List Pr) (v u : Value) (L : Lies w S v (.s 4 (l.flatMap dP))) (M : Lies w S u (.s 4 (m.flatMap dP))) (hl : ∀ p ∈ l, GP p) (hm : ∀ p ∈ m, GP p) (hn : l.length ≤ 1000000000) :
  Calls Tryz.prog 24 #[v, u] w (Tells w (.bool (eqL prq l m))) := by
 obtain ⟨A, n, c, rfl, -⟩ := L.slc
 obtain ⟨A2, n2, c2, rfl, -⟩ := M.slc
 have H := Lib.hid (eqfP_any 59 prq GP sameProtocol_q l m hl hm _ _ L M (fun _ => hn))
 clear L M hl hm hn
 go_enter Tryz.func24, Tryz.ntmps24
 go_wp2_with fail
 refine H.out.mono ?_; rintro e w3 ⟨rfl, hb3⟩
 have B3 := Lib.hid hb3
 clear hb3
 go_wp2_with fail
 go_ret
 exact ⟨rfl, B3.out⟩
end
end Go.Proofs.YtpnlojcimeiihaaGreatDoor
