/- value: Parse of what begins with a quotation mark. -/
import Derived.Test.YtnainhpcmoekcaaGreatDoorVaX
namespace Go.Proofs.YtnainhpcmoekcaaGreatDoor
open Go.RowKit

/-- What a reading of a text says: kind, number, string, error. -/
def TxR (o : Option (Bs × Bs)) (k n : Int) (s : Bs) (x : Int) : Prop := match o with
 | none => k = 0 ∧ n = 0 ∧ s = [] ∧ x = 3
 | some (a, _) => if a.length ≤ 40 then k = 2 ∧ n = 0 ∧ s = a ∧ x = 0 else k = 0 ∧ n = 0 ∧ s = [] ∧ x = 2
def TxQ (g : Nat) (w : World) (o : Option (Bs × Bs)) (e : Ending) (w' : World) : Prop := ∃ (k n : Int) (s : Bs) (x : Int) (m : Bs), e = .returned (.tuple #[vl k n s, .int .i64 x]) ∧ TxR o k n s x ∧ Rd w' g m ∧ (∀ a b, o = some (a, b) → m = b) ∧ Only g w w'
theorem TxP.q {g : Nat} {w w' : World} {o : Option (Bs × Bs)} {e : Ending} (h : TxP g w o e w') : TxQ g w o e w' := by
 obtain ⟨h1, h2⟩ := h
 cases o with
 | none =>
  obtain ⟨h3, m, h4⟩ := h2
  exact ⟨0, 0, [], 3, m, h3, ⟨rfl, rfl, rfl, rfl⟩, h4, (fun a b h => by cases h), h1⟩
 | some p =>
  obtain ⟨a, b⟩ := p
  obtain ⟨h3, h4⟩ := h2
  by_cases h : a.length ≤ 40
  ·rw [if_pos h] at h4
   exact ⟨2, 0, a, 0, b, h4, (by unfold TxR; dsimp only; rw [if_pos h]; exact ⟨rfl, rfl, rfl, rfl⟩), h3, (fun a' b' h => by cases h; rfl), h1⟩
  ·rw [if_neg h] at h4
   exact ⟨0, 0, [], 2, b, h4, (by unfold TxR; dsimp only; rw [if_neg h]; exact ⟨rfl, rfl, rfl, rfl⟩), h3, (fun a' b' h => by cases h; rfl), h1⟩
set_option maxRecDepth 100000 in
set_option maxHeartbeats 1600000 in
theorem value_text (g : Nat) (l : Bs) (w : World) (h : Rd w g (34 :: l)) (hl : l.length ≤ 1000000) : Calls Tryz.prog 57 #[.pointer (some ⟨g, 0, none⟩)] w (TxQ g w (txF (l.length + 1) l)) := by
 have hgl := Bx.lt h
 have hb2 := al1 w (.cells #[.int .i64 0, .int .i64 0, .string ⟨#[]⟩] 25)
 have HR0 := Lib.hid (h.below hb2)
 have HZ0 := Lib.hid (show Bx (w.alloc (.cells #[.int .i64 0, .int .i64 0, .string ⟨#[]⟩] 25)) w.heap.size 25 #[.int .i64 0, .int .i64 0, .string ⟨#[]⟩] from heap_alloc_new w _)
 have HO0 := Lib.hid ((Only.refl g w).below hb2)
 have hpre : preB [34] (34 :: l) = true := by unfold preB; simp
 have hcut : cutL [34] (34 :: l) = l := by unfold cutL; rw [hpre]; rfl
 have HC := Lib.hid (cut_any g (34 :: l) [34] _ HR0.out)
 rw [hpre, hcut] at HC
 obtain ⟨V, hV⟩ : ∃ V, V = w.alloc (.cells #[.int .i64 0, .int .i64 0, .string ⟨#[]⟩] 25) := ⟨_, rfl⟩
 rw [← hV] at HR0 HZ0 HO0 HC
 have HV := Lib.hid hV
 clear h hb2 hV hpre hcut
 go_enter Tryz.func57, Tryz.ntmps57
 go_wp2_with fail
 rw [← HV.out]
 obtain ⟨zb, hzb⟩ : ∃ zb, zb = w.heap.size := ⟨_, rfl⟩
 rw [← hzb] at HZ0 ⊢
 have hzw : w.heap.size ≤ zb := by omega
 have hgz : g < zb := by omega
 clear hzb hgl
 refine HC.out.mono ?_
 rintro e w1 ⟨rfl, rfl⟩
 have HR1 := Lib.hid (HR0.out.set l)
 have HZ1 := Lib.hid (HZ0.out.other (c := g) (i := 0) (u := .string (ofL l)) (by omega))
 have HO1 := Lib.hid (HO0.out.set 0 (.string (ofL l)))
 clear HR0 HZ0 HO0 HC HV
 generalize V.setCell ⟨g, 0, none⟩ (.string (ofL l)) = w1 at *
 go_wp2_with fail
 refine (text_any g l w1 HR1.out hl).mono ?_
 rintro e w2 ht
 obtain ⟨k, n, s, x, m, rfl, hres, hm, hmb, ho⟩ := ht.q
 have hz2 : Bx w2 zb 25 #[.int .i64 0, .int .i64 0, .string ⟨#[]⟩] := (ho.block zb HZ1.out.lt (by omega)).trans HZ1.out
 have k0 := hz2.cell 0
 have k1 := hz2.cell 1
 have k2 := hz2.cell 2
 have z0 := hz2.free 0
 have z1 := hz2.free 1
 have z2 := hz2.free 2
 have HZE := Lib.hid (z3 (v0 := .int .i64 k) (v1 := .int .i64 n) (v2 := .string (ofL s)) hz2)
 have HOE := Lib.hid ((((HO1.out.trans ho).new (i := 0) (v := .int .i64 k) hzw).new (i := 1) (v := .int .i64 n) hzw).new (i := 2) (v := .string (ofL s)) hzw)
 have HRE := Lib.hid (((hm.other (c := zb) (i := 0) (v := .int .i64 k) (by omega)).other (c := zb) (i := 1) (v := .int .i64 n) (by omega)).other (c := zb) (i := 2) (v := .string (ofL s)) (by omega))
 have HS := Lib.hid hres
 have HMB := Lib.hid hmb
 clear ht hres hm hmb ho hz2
 unfold vl
 go_wp2_with fail
 refine bodyPost_ret (bx_ret2 HZE.out rfl _ rfl Tryz.underlying25 rfl info_val) rfl ?_
 exact ⟨k, n, s, x, m, rfl, HS.out, HRE.out, HMB.out, HOE.out⟩
/-- What Parse says of a text. -/
def PaR (o : Option (Bs × Bs)) (k n : Int) (s : Bs) (x : Int) : Prop := match o with
 | none => k = 0 ∧ n = 0 ∧ s = [] ∧ x = 3
 | some (a, b) => if b = [] then TxR (some (a, b)) k n s x else k = 0 ∧ n = 0 ∧ s = [] ∧ x = 3
def PaP (w : World) (o : Option (Bs × Bs)) (e : Ending) (w' : World) : Prop := ∃ (k n : Int) (s : Bs) (x : Int), e = .returned (.tuple #[vl k n s, .int .i64 x]) ∧ PaR o k n s x ∧ Below w.heap.size w w'
theorem PaR.bad {o : Option (Bs × Bs)} {m : Bs} (hm : ∀ a b, o = some (a, b) → m = b) (h : m ≠ []) : PaR o 0 0 [] 3 := by
 cases o with
 | none => exact ⟨rfl, rfl, rfl, rfl⟩
 | some p =>
  obtain ⟨a, b⟩ := p
  have := hm a b rfl
  subst this
  unfold PaR
  dsimp only
  rw [if_neg h]
  exact ⟨rfl, rfl, rfl, rfl⟩
theorem PaR.good {o : Option (Bs × Bs)} {m : Bs} {k n x : Int} {s : Bs} (hm : ∀ a b, o = some (a, b) → m = b) (h : m = []) (hr : TxR o k n s x) : PaR o k n s x := by
 cases o with
 | none => exact hr
 | some p =>
  obtain ⟨a, b⟩ := p
  have := hm a b rfl
  subst this
  unfold PaR
  dsimp only
  rw [if_pos h]
  exact hr
set_option maxRecDepth 100000 in
set_option maxHeartbeats 1600000 in
theorem parse_text (l : Bs) (w : World) (hl : l.length ≤ 1000000) : Calls Tryz.prog 29 #[.string (ofL (34 :: l))] w (PaP w (txF (l.length + 1) l)) := by
 have hb2 := al2 w (.cells #[.int .i64 0, .int .i64 0, .string ⟨#[]⟩] 25) (.cells #[.string (ofL (34 :: l))] 66)
 have hx := heap_alloc_2 w (.cells #[.int .i64 0, .int .i64 0, .string ⟨#[]⟩] 25) (.cells #[.string (ofL (34 :: l))] 66)
 have hy := heap_alloc_2' w (.cells #[.int .i64 0, .int .i64 0, .string ⟨#[]⟩] 25) (.cells #[.string (ofL (34 :: l))] 66)
 obtain ⟨V, hV⟩ : ∃ V, V = (w.alloc (.cells #[.int .i64 0, .int .i64 0, .string ⟨#[]⟩] 25)).alloc (.cells #[.string (ofL (34 :: l))] 66) := ⟨_, rfl⟩
 rw [← hV] at hb2 hx hy
 have HC := Lib.hid (value_text (w.heap.size + 1) l V hy hl)
 have HZ0 := Lib.hid (show Bx V w.heap.size 25 #[.int .i64 0, .int .i64 0, .string ⟨#[]⟩] from hx)
 have HB0 := Lib.hid hb2
 have HV := Lib.hid hV
 clear hb2 hx hy hV
 go_enter Tryz.func29, Tryz.ntmps29
 go_wp2_with fail
 rw [← HV.out]
 refine HC.out.mono ?_
 rintro e w2 ⟨k, n, s, x, m, rfl, hres, hm, hmb, ho⟩
 have HZ2 := Lib.hid (show Bx w2 w.heap.size 25 #[.int .i64 0, .int .i64 0, .string ⟨#[]⟩] from (ho.block _ HZ0.out.lt (by omega)).trans HZ0.out)
 have HB2 := Lib.hid (HB0.out.trans (ho.toBelow (B := w.heap.size) (by omega) HB0.out.size))
 have hba := al1 w2 (.cells #[.int .i64 k, .int .i64 n, .string (ofL s)] 25)
 have HVB := Lib.hid (show Bx (w2.alloc (.cells #[.int .i64 k, .int .i64 n, .string (ofL s)] 25)) w2.heap.size 25 #[.int .i64 k, .int .i64 n, .string (ofL s)] from heap_alloc_new w2 _)
 have HR3 := Lib.hid (hm.below hba)
 have HZ3 := Lib.hid (HZ2.out.below hba)
 have HB3 := Lib.hid (HB2.out.trans (hba.mono HB2.out.size))
 have HRS := Lib.hid hres; have HMB := Lib.hid hmb
 clear hres hm hmb ho hba HZ2 HZ0 HB0 HC HV HB2
 unfold vl
 go_wp2_with fail
 refine (ended_any _ m _ HR3.out).mono ?_
 rintro e w4 ⟨rfl, rfl⟩
 by_cases hmn : m = []
 ·have dm : decide (m = []) = true := decide_eq_true hmn
  rw [dm]
  have HPR := Lib.hid (PaR.good HMB.out hmn HRS.out)
  have k0 := HZ3.out.cell 0
  have k1 := HZ3.out.cell 1
  have k2 := HZ3.out.cell 2
  have z0 := HZ3.out.free 0
  have z1 := HZ3.out.free 1
  have z2 := HZ3.out.free 2
  have v0 := HVB.out.cell 0
  have v1 := HVB.out.cell 1
  have v2 := HVB.out.cell 2
  have HZE := Lib.hid (z3 (v0 := .int .i64 k) (v1 := .int .i64 n) (v2 := .string (ofL s)) HZ3.out)
  have HBE := Lib.hid (((HB3.out.setCell (p := ⟨w.heap.size, 0, none⟩) (Nat.le_refl _) (.int .i64 k)).setCell (p := ⟨w.heap.size, 1, none⟩) (Nat.le_refl _) (.int .i64 n)).setCell (p := ⟨w.heap.size, 2, none⟩) (Nat.le_refl _) (.string (ofL s)))
  clear dm hmn HRS HMB HR3
  go_wp2_with fail
  refine bodyPost_ret (bx_ret2 HZE.out rfl _ rfl Tryz.underlying25 rfl info_val) rfl ?_
  exact ⟨k, n, s, x, rfl, HPR.out, HBE.out⟩
 ·have dm : decide (m = []) = false := decide_eq_false hmn
  rw [dm]
  have HPR := Lib.hid (PaR.bad HMB.out hmn)
  have k0 := HZ3.out.cell 0
  have k1 := HZ3.out.cell 1
  have k2 := HZ3.out.cell 2
  have z0 := HZ3.out.free 0
  have z1 := HZ3.out.free 1
  have z2 := HZ3.out.free 2
  have HZE := Lib.hid (z3 (v0 := .int .i64 0) (v1 := .int .i64 0) (v2 := .string ⟨#[]⟩) HZ3.out)
  have HBE := Lib.hid (((HB3.out.setCell (p := ⟨w.heap.size, 0, none⟩) (Nat.le_refl _) (.int .i64 0)).setCell (p := ⟨w.heap.size, 1, none⟩) (Nat.le_refl _) (.int .i64 0)).setCell (p := ⟨w.heap.size, 2, none⟩) (Nat.le_refl _) (.string ⟨#[]⟩))
  clear dm hmn HRS HMB HR3
  go_wp2_with fail
  refine bodyPost_ret (bx_ret2 HZE.out rfl _ rfl Tryz.underlying25 rfl info_val) rfl ?_
  exact ⟨0, 0, [], 3, rfl, HPR.out, HBE.out⟩
/-- The document's text. -/
theorem tx_doc : txF 6 [97, 92, 34, 98, 34] = some ([97, 34, 98], []) := by decide
end Go.Proofs.YtnainhpcmoekcaaGreatDoor
