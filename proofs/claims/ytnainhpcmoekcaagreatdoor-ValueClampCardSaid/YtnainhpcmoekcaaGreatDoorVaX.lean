/- value: the reader's text. -/
import Derived.Test.YtnainhpcmoekcaaGreatDoorVaE
namespace Go.Proofs.YtnainhpcmoekcaaGreatDoor
open Go.RowKit

/-- The text behind a quotation mark, and what is left behind it. -/
def txF : Nat → Bs → Option (Bs × Bs)
 | 0, _ => none
 | f + 1, l => if preB [34] l then some ([], l.drop 1) else match cutL [92] l with
  | [] => none
  | c :: r => if prB [c] && (spc c == preB [92] l) then (txF f r).map (fun p => (c :: p.1, p.2)) else none
def consP (bl : Bs) (o : Option (Bs × Bs)) : Option (Bs × Bs) := o.map fun p => (bl ++ p.1, p.2)
theorem cutL_len (p l : Bs) : (cutL p l).length ≤ l.length := by
 unfold cutL
 split
 ·simp
 ·exact Nat.le_refl _
theorem cutL_not {p l : Bs} (h : preB p l = false) : cutL p l = l := by unfold cutL; rw [h]; rfl
theorem tx_stop {f : Nat} {l : Bs} (h : preB [34] l = true) : txF (f + 1) l = some ([], l.drop 1) := by unfold txF; rw [if_pos h]
theorem tx_nil {f : Nat} {l : Bs} (h : preB [34] l = false) (hm : cutL [92] l = []) : txF (f + 1) l = none := by
 unfold txF
 rw [if_neg (by rw [h]; simp), hm]
theorem tx_bad {f : Nat} {l r : Bs} {c : UInt8} (h : preB [34] l = false) (hm : cutL [92] l = c :: r) (hb : (prB [c] && (spc c == preB [92] l)) = false) : txF (f + 1) l = none := by
 unfold txF
 rw [if_neg (by rw [h]; simp), hm]
 simp only [hb]
 rfl
theorem tx_go {f : Nat} {l r : Bs} {c : UInt8} (h : preB [34] l = false) (hm : cutL [92] l = c :: r) (hb : (prB [c] && (spc c == preB [92] l)) = true) : txF (f + 1) l = (txF f r).map (fun p => (c :: p.1, p.2)) := by
 conv => lhs; unfold txF
 rw [if_neg (by rw [h]; simp), hm]
 show (if _ then _ else none) = _
 rw [if_pos hb]
theorem consP_go {bl : Bs} {c : UInt8} {o : Option (Bs × Bs)} : consP bl (o.map (fun p => (c :: p.1, p.2))) = consP (bl ++ [c]) o := by
 unfold consP
 cases o with
 | none => rfl
 | some p => simp
def restLen (g : Nat) (w : World) : Nat := match w.cell? ⟨g, 0, none⟩ with
 | some (.string s) => s.size
 | _ => 0
theorem restLen_rd {w : World} {g : Nat} {l : Bs} (h : Rd w g l) : restLen g w = l.length := by
 unfold restLen
 rw [Bx.cell h 0]
 show (ofL l).size = _
 rw [ofL_size]
/-- What text does. -/
def TxP (g : Nat) (w : World) (o : Option (Bs × Bs)) (e : Ending) (w' : World) : Prop := Only g w w' ∧ match o with
 | none => e = .returned (.tuple #[vl 0 0 [], .int .i64 3]) ∧ ∃ m, Rd w' g m
 | some (a, b) => Rd w' g b ∧ e = .returned (if a.length ≤ 40 then .tuple #[vl 2 0 a, .int .i64 0] else .tuple #[vl 0 0 [], .int .i64 2])
theorem info_val : (Tryz.prog.info? 25).map (·.size) = some 3 := by kernel_rfl
theorem Rd.other {w : World} {g c i : Nat} {l : Bs} {v : Value} (h : Rd w g l) (hc : g ≠ c) : Rd (w.setCell ⟨c, i, none⟩ v) g l := Bx.other h hc
theorem Only.pk {g bb B : Nat} {w a b : World} (h : Only g w a) (k : Pk bb B a b) (hb : w.heap.size ≤ bb) (hB : w.heap.size ≤ B) : Only g w b :=
 ⟨k.os.trans h.os, k.tape.trans h.tape, k.output.trans h.output, Nat.le_trans h.size k.size, fun i hi hn => (k.block i (Nat.lt_of_lt_of_le hi h.size) (by omega) (.inl (by omega))).trans (h.block i hi hn)⟩
theorem Bx.pk {g bb B : Nat} {w a : World} {T : TypeId} {cs : Array Value} (h : Bx w g T cs) (k : Pk bb B w a) (hb : g ≠ bb) (hB : g < B) : Bx a g T cs := (k.block g (lt_of_some h) hb (.inl hB)).trans h
theorem Only.belowB {g B : Nat} {w a b : World} (h : Only g w a) (hb : Below B a b) (hB : w.heap.size ≤ B) : Only g w b :=
 ⟨hb.os.trans h.os, hb.tape.trans h.tape, hb.output.trans h.output, Nat.le_trans h.size hb.size, fun k hk hn => (hb.block k (by omega)).trans (h.block k hk hn)⟩
theorem Only.new {g b i : Nat} {w a : World} {v : Value} (h : Only g w a) (hb : w.heap.size ≤ b) : Only g w (a.setCell ⟨b, i, none⟩ v) :=
 ⟨h.os, h.tape, h.output, by have := h.size; simp [World.setCell]; omega, fun k hk hn => (Below.heap_setCell _ _ _ _ (by show k ≠ b; omega)).trans (h.block k hk hn)⟩
theorem z3 {W : World} {zb : Nat} {T : TypeId} {a0 a1 a2 v0 v1 v2 : Value} (h : Bx W zb T #[a0, a1, a2]) : Bx (((W.setCell ⟨zb, 0, none⟩ v0).setCell ⟨zb, 1, none⟩ v1).setCell ⟨zb, 2, none⟩ v2) zb T #[v0, v1, v2] := ((h.set 0 v0).set 1 v1).set 2 v2
set_option maxRecDepth 100000 in
set_option maxHeartbeats 4000000 in
theorem text_any (g : Nat) (l0 : Bs) (w : World) (h : Rd w g l0) (hl0 : l0.length ≤ 1000000) : Calls Tryz.prog 79 #[.pointer (some ⟨g, 0, none⟩)] w (TxP g w (txF (l0.length + 1) l0)) := by
 have hgl := Bx.lt h
 have hb2 := al2 w (.cells #[.int .i64 0, .int .i64 0, .string ⟨#[]⟩] 25) (.cells #[.pointer none, .slice none 0 0] 86)
 have hx := heap_alloc_2 w (.cells #[.int .i64 0, .int .i64 0, .string ⟨#[]⟩] 25) (.cells #[.pointer none, .slice none 0 0] 86)
 have hy := heap_alloc_2' w (.cells #[.int .i64 0, .int .i64 0, .string ⟨#[]⟩] 25) (.cells #[.pointer none, .slice none 0 0] 86)
 obtain ⟨V, hV⟩ : ∃ V, V = (w.alloc (.cells #[.int .i64 0, .int .i64 0, .string ⟨#[]⟩] 25)).alloc (.cells #[.pointer none, .slice none 0 0] 86) := ⟨_, rfl⟩
 have hVs : V.heap.size = w.heap.size + 2 := by rw [hV]; simp
 rw [← hV] at hb2 hx hy
 have HR0 := Lib.hid (h.below hb2)
 have HZ0 := Lib.hid (show Bx V w.heap.size 25 #[.int .i64 0, .int .i64 0, .string ⟨#[]⟩] from hx)
 have HP0 := Lib.hid (show Pt V (w.heap.size + 2) (w.heap.size + 1) [] from ⟨⟨.pointer none, .slice none 0 0, .inl rfl, hy, World.ownsRow_nil _ _ _ _, fun _ => rfl⟩, by omega, by omega⟩)
 have HO0 := Lib.hid (show Only g w V from (Only.refl g w).below hb2)
 have HV := Lib.hid hV
 clear h hb2 hx hy hV hVs
 go_enter Tryz.func79, Tryz.ntmps79
 go_wp2_with fail
 rw [← HV.out]
 obtain ⟨zb, hzb⟩ : ∃ zb, zb = w.heap.size := ⟨_, rfl⟩
 rw [← hzb] at HZ0 HP0 ⊢
 have HZB := Lib.hid hzb
 have hgz : g < zb := by omega
 clear hzb hgl
 go_loopw [5] (fun _ wr => ∃ (f : Nat) (l bl : Bs), l.length < f ∧ bl.length + l.length ≤ l0.length ∧ Hid (txF (l0.length + 1) l0 = consP bl (txF f l)) ∧ Hid (Rd wr g l) ∧ Hid (Pt wr (zb + 2) (zb + 1) bl) ∧ Hid (Bx wr zb 25 #[.int .i64 0, .int .i64 0, .string ⟨#[]⟩]) ∧ Hid (Only g w wr)) (fun _ wr => restLen g wr)
 case atStart => exact ⟨l0.length + 1, l0, [], by omega, by simp, Lib.hid (by unfold consP; cases txF (l0.length + 1) l0 <;> simp), HR0, HP0, HZ0, HO0⟩
 case round =>
  clear HR0 HZ0 HP0 HO0
  obtain ⟨f, l, bl, hf, hbl, HT, HR, HP, HZ, HO⟩ := hrel
  obtain ⟨f, rfl⟩ : ∃ f', f = f' + 1 := ⟨f - 1, by omega⟩
  have HM := Lib.hid (restLen_rd HR.out)
  go_wp2_with fail
  refine (cut_any g l [34] wr HR.out).mono ?_
  rintro e w1 ⟨rfl, rfl⟩
  have HR1 := Lib.hid (HR.out.set (cutL [34] l))
  have HP1 := Lib.hid (HP.out.set (c := g) (i := 0) (v := .string (ofL (cutL [34] l))) (by omega) (by omega))
  have HZ1 := Lib.hid (HZ.out.other (c := g) (i := 0) (u := .string (ofL (cutL [34] l))) (by omega))
  have HO1 := Lib.hid (HO.out.set 0 (.string (ofL (cutL [34] l))))
  clear HR HP HZ HO
  cases h34 : preB [34] l with
  | true =>
   have HTX := Lib.hid (show txF (l0.length + 1) l0 = some (bl, l.drop 1) from by rw [HT.out, tx_stop h34]; simp [consP])
   have hcl : cutL [34] l = l.drop 1 := by unfold cutL; rw [h34]; rfl
   rw [hcl] at HR1 HP1 HZ1 HO1 ⊢
   clear HT h34 hcl
   generalize wr.setCell ⟨g, 0, none⟩ (.string (ofL (l.drop 1))) = w1 at *
   go_wp2_with fail
   refine (blen_any HP1.out).mono ?_
   rintro e w2 ⟨rfl, rfl⟩
   by_cases h40 : bl.length ≤ 40
   ·have d40 : decide ((40 : Int) < (bl.length : Int)) = false := decide_eq_false (by omega)
    have d41 : ¬ 40 < bl.length := by omega
    go_wp2_with fail
    refine (bstring_any HP1.out).mono ?_
    rintro e w3 ⟨rfl, hb3⟩
    have hz3 : Bx w3 zb 25 #[.int .i64 0, .int .i64 0, .string ⟨#[]⟩] := HZ1.out.belowB hb3 (by omega)
    have HZ3 := Lib.hid hz3
    have HR3 := Lib.hid (show Rd w3 g (l.drop 1) from Bx.belowB HR1.out hb3 (by omega))
    have HO3 := Lib.hid (HO1.out.belowB hb3 (by have := HZB.out; omega))
    clear hb3 hz3
    have k0 := HZ3.out.cell 0
    have k1 := HZ3.out.cell 1
    have k2 := HZ3.out.cell 2
    have z0 := HZ3.out.free 0
    have z1 := HZ3.out.free 1
    have z2 := HZ3.out.free 2
    have HZE := Lib.hid (z3 (v0 := .int .i64 2) (v1 := .int .i64 0) (v2 := .string (ofL bl)) HZ3.out)
    have HOE := Lib.hid (((HO3.out.new (i := 0) (v := .int .i64 2) (by have := HZB.out; omega : w.heap.size ≤ zb)).new (i := 1) (v := .int .i64 0) (by have := HZB.out; omega : w.heap.size ≤ zb)).new (i := 2) (v := .string (ofL bl)) (by have := HZB.out; omega : w.heap.size ≤ zb))
    have HRE := Lib.hid (((HR3.out.other (c := zb) (i := 0) (v := .int .i64 2) (by omega)).other (c := zb) (i := 1) (v := .int .i64 0) (by omega)).other (c := zb) (i := 2) (v := .string (ofL bl)) (by omega))
    go_wp2_with fail
    refine bodyPost_ret (bx_ret2 HZE.out rfl _ rfl Tryz.underlying25 rfl info_val) rfl ?_
    rw [HTX.out]
    refine ⟨HOE.out, HRE.out, ?_⟩
    rw [if_pos h40]
    rfl
   ·have d40 : decide ((40 : Int) < (bl.length : Int)) = true := decide_eq_true (by omega)
    have d41 : 40 < bl.length := by omega
    have k0 := HZ1.out.cell 0
    have k1 := HZ1.out.cell 1
    have k2 := HZ1.out.cell 2
    have z0 := HZ1.out.free 0
    have z1 := HZ1.out.free 1
    have z2 := HZ1.out.free 2
    have HZE := Lib.hid (z3 (v0 := .int .i64 0) (v1 := .int .i64 0) (v2 := .string ⟨#[]⟩) HZ1.out)
    have HOE := Lib.hid (((HO1.out.new (i := 0) (v := .int .i64 0) (by have := HZB.out; omega : w.heap.size ≤ zb)).new (i := 1) (v := .int .i64 0) (by have := HZB.out; omega : w.heap.size ≤ zb)).new (i := 2) (v := .string ⟨#[]⟩) (by have := HZB.out; omega : w.heap.size ≤ zb))
    have HRE := Lib.hid (((HR1.out.other (c := zb) (i := 0) (v := .int .i64 0) (by omega)).other (c := zb) (i := 1) (v := .int .i64 0) (by omega)).other (c := zb) (i := 2) (v := .string ⟨#[]⟩) (by omega))
    go_wp2_with fail
    refine bodyPost_ret (bx_ret2 HZE.out rfl _ rfl Tryz.underlying25 rfl info_val) rfl ?_
    rw [HTX.out]
    refine ⟨HOE.out, HRE.out, ?_⟩
    rw [if_neg h40]
    rfl
  | false =>
   have hcl : cutL [34] l = l := cutL_not h34
   rw [hcl] at HR1 HP1 HZ1 HO1 ⊢
   clear hcl
   have HML := Lib.hid (cutL_len [92] l)
   have HTN := Lib.hid (fun h => tx_nil (f := f) (l := l) h34 h)
   have HTB := Lib.hid (fun c r h hb => tx_bad (f := f) (l := l) (c := c) (r := r) h34 h hb)
   have HTG := Lib.hid (fun c r h hb => tx_go (f := f) (l := l) (c := c) (r := r) h34 h hb)
   clear h34
   generalize wr.setCell ⟨g, 0, none⟩ (.string (ofL l)) = w1 at *
   go_wp2_with fail
   refine (cut_any g l [92] w1 HR1.out).mono ?_
   rintro e w2 ⟨rfl, rfl⟩
   have HR2 := Lib.hid (HR1.out.set (cutL [92] l))
   have HP2 := Lib.hid (HP1.out.set (c := g) (i := 0) (v := .string (ofL (cutL [92] l))) (by omega) (by omega))
   have HZ2 := Lib.hid (HZ1.out.other (c := g) (i := 0) (u := .string (ofL (cutL [92] l))) (by omega))
   have HO2 := Lib.hid (HO1.out.set 0 (.string (ofL (cutL [92] l))))
   clear HR1 HP1 HZ1 HO1
   generalize preB [92] l = b at *
   generalize cutL [92] l = m at *
   generalize w1.setCell ⟨g, 0, none⟩ (.string (ofL m)) = w2 at *
   go_wp2_with fail
   refine (ended_any g m w2 HR2.out).mono ?_
   rintro e w3 ⟨rfl, rfl⟩
   cases m with
   | nil =>
    have HTX := Lib.hid (show txF (l0.length + 1) l0 = none from by rw [HT.out, HTN.out rfl]; rfl)
    have de : decide (([] : Bs) = []) = true := rfl
    rw [de]
    clear HT HTN HTB HTG de
    have k0 := HZ2.out.cell 0
    have k1 := HZ2.out.cell 1
    have k2 := HZ2.out.cell 2
    have z0 := HZ2.out.free 0
    have z1 := HZ2.out.free 1
    have z2 := HZ2.out.free 2
    have HZE := Lib.hid (z3 (v0 := .int .i64 0) (v1 := .int .i64 0) (v2 := .string ⟨#[]⟩) HZ2.out)
    have HOE := Lib.hid (((HO2.out.new (i := 0) (v := .int .i64 0) (by have := HZB.out; omega : w.heap.size ≤ zb)).new (i := 1) (v := .int .i64 0) (by have := HZB.out; omega : w.heap.size ≤ zb)).new (i := 2) (v := .string ⟨#[]⟩) (by have := HZB.out; omega : w.heap.size ≤ zb))
    have HRE := Lib.hid (((HR2.out.other (c := zb) (i := 0) (v := .int .i64 0) (by omega)).other (c := zb) (i := 1) (v := .int .i64 0) (by omega)).other (c := zb) (i := 2) (v := .string ⟨#[]⟩) (by omega))
    go_wp2_with fail
    refine bodyPost_ret (bx_ret2 HZE.out rfl _ rfl Tryz.underlying25 rfl info_val) rfl ?_
    rw [HTX.out]
    exact ⟨HOE.out, rfl, _, HRE.out⟩
   | cons c r =>
    have de : decide (c :: r = []) = false := by simp
    rw [de]
    have HZS := Lib.hid (ofL_size (c :: r))
    have kr := Bx.cell HR2.out 0
    have h1s : 1 ≤ (ofL (c :: r)).size := by rw [HZS.out]; simp
    have he1 : (ofL (c :: r)).extract 0 1 = ofL [c] := by rw [ofL_extract]; rfl
    clear HTN de
    go_wp2_with fail
    refine (printable_any [c] w3 (by simp)).mono ?_
    rintro e w4 ⟨rfl, hb4⟩
    have HR4 := Lib.hid (HR2.out.below hb4)
    have HP4 := Lib.hid (HP2.out.below hb4)
    have HZ4 := Lib.hid (HZ2.out.below hb4)
    have HO4 := Lib.hid (HO2.out.below hb4)
    have kr4 := Bx.cell HR4.out 0
    clear HR2 HP2 HZ2 HO2 hb4 kr
    cases hpb : prB [c] with
    | false =>
     have HTX := Lib.hid (show txF (l0.length + 1) l0 = none from by rw [HT.out, HTB.out c r rfl (by rw [hpb]; rfl)]; rfl)
     clear HT HTB HTG hpb
     have k0 := HZ4.out.cell 0
     have k1 := HZ4.out.cell 1
     have k2 := HZ4.out.cell 2
     have z0 := HZ4.out.free 0
     have z1 := HZ4.out.free 1
     have z2 := HZ4.out.free 2
     have HZE := Lib.hid (z3 (v0 := .int .i64 0) (v1 := .int .i64 0) (v2 := .string ⟨#[]⟩) HZ4.out)
     have HOE := Lib.hid (((HO4.out.new (i := 0) (v := .int .i64 0) (by have := HZB.out; omega : w.heap.size ≤ zb)).new (i := 1) (v := .int .i64 0) (by have := HZB.out; omega : w.heap.size ≤ zb)).new (i := 2) (v := .string ⟨#[]⟩) (by have := HZB.out; omega : w.heap.size ≤ zb))
     have HRE := Lib.hid (((HR4.out.other (c := zb) (i := 0) (v := .int .i64 0) (by omega)).other (c := zb) (i := 1) (v := .int .i64 0) (by omega)).other (c := zb) (i := 2) (v := .string ⟨#[]⟩) (by omega))
     go_wp2_with fail
     refine bodyPost_ret (bx_ret2 HZE.out rfl _ rfl Tryz.underlying25 rfl info_val) rfl ?_
     rw [HTX.out]
     exact ⟨HOE.out, rfl, _, HRE.out⟩
    | true =>
     go_wp2_with fail
     refine (escaped_any c w4).mono ?_
     rintro e w5 ⟨rfl, rfl⟩
     by_cases hsb : spc c = b
     ·have HTX := Lib.hid (show txF (l0.length + 1) l0 = consP (bl ++ [c]) (txF f r) from by rw [HT.out, HTG.out c r rfl (by rw [hpb, hsb]; simp), consP_go])
      rw [hsb]
      have hbb : (b != b) = false := by simp
      have hb0 : ∀ h : 0 < (ofL (c :: r)).size, ((ofL (c :: r))[0]'h).toNat = c.toNat := fun h => by rw [ofL_get]; rfl
      have hsz0 : 0 < (ofL (c :: r)).size := by omega
      have hlr : r.length + 1 ≤ l.length := HML.out
      clear HT HTB HTG hpb hsb
      go_wp2_with fail
      refine (writeByte_any HP4.out (by omega) c).mono ?_
      rintro e w6 ⟨rfl, hp6, hk6⟩
      have hr6 : Rd w6 g (c :: r) := Bx.pk HR4.out hk6 (by omega) (by omega)
      have kr6 := Bx.cell hr6 0
      have zr6 := Bx.free hr6 0
      have HR7 := Lib.hid (hr6.set r)
      have HP7 := Lib.hid (hp6.set (c := g) (i := 0) (v := .string (ofL r)) (by omega) (by omega))
      have HZ7 := Lib.hid ((Bx.pk HZ4.out hk6 (by omega) (by omega)).other (c := g) (i := 0) (u := .string (ofL r)) (by omega))
      have HO7 := Lib.hid ((HO4.out.pk hk6 (by have := HZB.out; omega) (by have := HZB.out; omega)).set 0 (.string (ofL r)))
      have he2 : (ofL (c :: r)).extract 1 (ofL (c :: r)).size = ofL r := by rw [HZS.out, ofL_extract]; simp
      clear hp6 hk6 hr6 kr4 HR4 HP4 HZ4 HO4
      go_wp2_with fail
      go_roundw
      case rel => exact ⟨f, r, bl ++ [c], by omega, by simp; omega, HTX, HR7, HP7, HZ7, HO7⟩
      case measure => rw [restLen_rd HR7.out, HM.out]; omega
     ·have HTX := Lib.hid (show txF (l0.length + 1) l0 = none from by rw [HT.out, HTB.out c r rfl (by rw [hpb]; simpa using hsb)]; rfl)
      have hbb : (spc c == b) = false := by rw [beq_eq_false_iff_ne]; exact hsb
      have hbc : (!(spc c == b)) = true := by rw [hbb]; rfl
      generalize spc c = d at *
      clear HT HTB HTG hpb hsb
      have k0 := HZ4.out.cell 0
      have k1 := HZ4.out.cell 1
      have k2 := HZ4.out.cell 2
      have z0 := HZ4.out.free 0
      have z1 := HZ4.out.free 1
      have z2 := HZ4.out.free 2
      have HZE := Lib.hid (z3 (v0 := .int .i64 0) (v1 := .int .i64 0) (v2 := .string ⟨#[]⟩) HZ4.out)
      have HOE := Lib.hid (((HO4.out.new (i := 0) (v := .int .i64 0) (by have := HZB.out; omega : w.heap.size ≤ zb)).new (i := 1) (v := .int .i64 0) (by have := HZB.out; omega : w.heap.size ≤ zb)).new (i := 2) (v := .string ⟨#[]⟩) (by have := HZB.out; omega : w.heap.size ≤ zb))
      have HRE := Lib.hid (((HR4.out.other (c := zb) (i := 0) (v := .int .i64 0) (by omega)).other (c := zb) (i := 1) (v := .int .i64 0) (by omega)).other (c := zb) (i := 2) (v := .string ⟨#[]⟩) (by omega))
      go_wp2_with fail
      refine bodyPost_ret (bx_ret2 HZE.out rfl _ rfl Tryz.underlying25 rfl info_val) rfl ?_
      rw [HTX.out]
      exact ⟨HOE.out, rfl, _, HRE.out⟩
end Go.Proofs.YtnainhpcmoekcaaGreatDoor
