/- The contract of Equal. -/
import Derived.Test.YtockgbilbnheaaaDoorMBitsFn
import Derived.Deep.QuietTactic
import Derived.BigQuiet
import Derived.Test.YtockgbilbnheaaaDoorNfaAwk
import Derived.Test.YtockgbilbnheaaaDoorNfaRv
import Derived.Test.YtockgbilbnheaaaDoorMBitsComb
namespace Go.Proofs.YtockgbilbnheaaaDoor
/- The contract of Equal. -/
open Go.RowKit

set_option maxHeartbeats 400000 in
theorem sleq_any (va vb : Value) (a b : List Nat) (w : World) (ha : Sl uv w va a) (hb : Sl uv w vb b) (la : Room2 a.length) (lb : Room2 b.length) :
  Calls Tryd.prog 27 #[va, vb] w fun e w' => e = .returned (.bool (decide (a = b))) ∧ ∃ m, w' = w.drewN m := by
 obtain ⟨A, c, rfl⟩ := ha.shape
 obtain ⟨A2, c2, rfl⟩ := hb.shape
 have Ha := Lib.hid ha; have Hb := Lib.hid hb
 unfold Room2 at la lb
 clear ha hb
 by_cases hl : a.length = b.length
 ·go_enter Tryd.func27, Tryd.ntmps27
  have Hl := Lib.hid hl
  rw [← hl] at Hb ⊢
  clear hl
  go_wp2
  go_loopw [13] (fun i wr => ∃ k : Nat, k ≤ a.length ∧ i = .int .i64 k ∧ a.take k = b.take k ∧ ∃ m, wr = w.drewN m) (fun i _ => a.length - (intOf i).toNat)
  case atStart => exact ⟨0, Nat.zero_le _, rfl, rfl, 0, rfl⟩
  case round =>
   obtain ⟨k, hk, rfl, hall, m, rfl⟩ := hrel
   have Hall := Lib.hid hall; clear hall
   by_cases hlt : k < a.length
   ·obtain ⟨ad, c', hs, hcap, hcell⟩ := sl_cell Ha.out k hlt
    simp only [Value.slice.injEq, true_and] at hs
    obtain ⟨rfl, rfl⟩ := hs
    obtain ⟨ad2, c2', hs, hcap2, hcell2⟩ := sl_cell Hb.out k (by have := Hl.out; omega)
    simp only [Value.slice.injEq] at hs
    obtain ⟨rfl, hl2, rfl⟩ := hs
    clear hl2
    have hab : a.take (k + 1) = b.take (k + 1) ↔ a[k] = b[k]'(by have := Hl.out; omega) := by
     have := Hl.out
     rw [List.take_succ_eq_append_getElem hlt, List.take_succ_eq_append_getElem (l := b) (by omega), Hall.out]
     exact ⟨fun h => by simpa using List.append_cancel_left h, fun h => by rw [h]⟩
    have Hab := Lib.hid hab; clear hab
    have hne : ¬ a[k] = b[k]'(by have := Hl.out; omega) → a ≠ b := fun h e => by subst e; exact h rfl
    have Hne := Lib.hid hne; clear hne
    generalize a[k] = x at *
    generalize b[k]'(by have := Hl.out; omega) = y at *
    unfold uv at hcell hcell2
    by_cases hxy : x = y
    ·have hn := Lib.hid (Hab.out.2 hxy)
     have hne : ((x : Int) != (y : Int)) = false := by rw [bne_eq_false_iff_eq]; omega
     clear hxy
     go_wp2
     go_quiet (fail)
     go_wp2
     go_roundw
     case rel => exact ⟨k + 1, by omega, by go_num, hn.out, _, rfl⟩
     case measure => simp [intOf]; omega
    ·have hd : decide (a = b) = false := decide_eq_false (Hne.out hxy)
     have hne : ((x : Int) != (y : Int)) = true := by rw [bne_iff_ne]; omega
     have Hd := Lib.hid hd
     clear hxy hd
     go_wp2
     go_quiet (fail)
     go_wp2
     go_ret
     exact ⟨by rw [Hd.out]; rfl, m + nq, by simp⟩
   ·have hd : decide (a = b) = true := by
     rw [decide_eq_true_iff]
     have := Hall.out
     have h2 := Hl.out
     rwa [List.take_of_length_le (by omega), List.take_of_length_le (by omega)] at this
    have Hd := Lib.hid hd
    clear hd
    go_wp2
    go_ret
    exact ⟨by rw [Hd.out]; rfl, _, rfl⟩
 ·have hd : decide (a = b) = false := decide_eq_false fun h => hl (congrArg List.length h)
  rw [hd]
  have hne : ((a.length : Int) != (b.length : Int)) = true := by rw [bne_iff_ne]; omega
  clear hd hl
  go_enter Tryd.func27, Tryd.ntmps27
  go_wp2
  go_ret
  exact ⟨rfl, 0, rfl⟩
theorem equal_any (va vb : Value) (a b : List Nat) (w : World) (ha : Sl uv w va a) (hb : Sl uv w vb b) (la : Room2 a.length) (lb : Room2 b.length) :
  Calls Tryd.prog 12 #[va, vb] w fun e w' => e = .returned (.bool (decide (used a = used b))) ∧ ∃ m, w' = w.drewN m := by
 have Ha := Lib.hid ha; have Hb := Lib.hid hb; have La := Lib.hid la; have Lb := Lib.hid lb
 clear ha hb la lb
 have ra : Room2 (used a).length := by rw [used_len]; have := (ulen_le a).2; unfold Room2; omega
 have rb : Room2 (used b).length := by rw [used_len]; have := (ulen_le b).2; unfold Room2; omega
 have Ra := Lib.hid ra; have Rb := Lib.hid rb
 clear ra rb
 go_enter Tryd.func12, Tryd.ntmps12
 go_wp2_with fail
 refine (used_any va a _ Ha.out La.out).mono ?_
 rintro e w1 ⟨v1, rfl, hv1, h1, rfl⟩
 have H1 := Lib.hid h1
 clear h1 hv1
 go_wp2_with fail
 refine (used_any vb b _ Hb.out Lb.out).mono ?_
 rintro e w1 ⟨v2, rfl, hv2, h2, rfl⟩
 have H2 := Lib.hid h2
 clear h2 hv2
 go_wp2_with fail
 refine (sleq_any v1 v2 _ _ _ H1.out H2.out Ra.out Rb.out).mono ?_
 rintro e w1 ⟨rfl, m, rfl⟩
 go_wp2
 go_ret
 exact ⟨rfl, m, rfl⟩
/- Closures and steps of sets of states, plainly; sets that hold one another. -/
open Go.RowKit

theorem Cl.idem {ar : List Ac} {Q : Int → Prop} {n : Int} : Cl ar (Cl ar Q) n ↔ Cl ar Q n := by
 constructor
 ·intro h
  induction h with
  | base h => exact h
  | step _ ha ih => exact .step ih ha
 ·exact .base
theorem Cl.ex {ar : List Ac} {α : Type} {P : α → Prop} {Q : α → Int → Prop} {n : Int} : Cl ar (fun x => ∃ a, P a ∧ Q a x) n ↔ ∃ a, P a ∧ Cl ar (Q a) n := by
 constructor
 ·intro h
  induction h with
  | base h => obtain ⟨a, h1, h2⟩ := h; exact ⟨a, h1, .base h2⟩
  | step _ ha ih => obtain ⟨a, h1, h2⟩ := ih; exact ⟨a, h1, .step h2 ha⟩
 ·rintro ⟨a, h1, h2⟩
  exact h2.mono fun n h => ⟨a, h1, h⟩
theorem mem_ex {l : List Int} {x : Int} : x ∈ l ↔ ∃ a, a ∈ l ∧ x ∈ [a] := by
 constructor
 ·intro h; exact ⟨x, h, by simp⟩
 ·rintro ⟨a, h1, h2⟩; rw [List.mem_singleton.1 h2]; exact h1
theorem cl_list {ar : List Ac} {l : List Int} {n : Int} : Cl ar (fun x => x ∈ l) n ↔ ∃ a, a ∈ l ∧ Cl ar (fun x => x ∈ [a]) n :=
 (Cl.congr fun _ => mem_ex).trans Cl.ex
theorem sp_list {ar : List Ac} {l : List Int} {c n : Int} : Sp ar (Cl ar (fun x => x ∈ l)) c n ↔ ∃ a, a ∈ l ∧ Sp ar (Cl ar (fun x => x ∈ [a])) c n := by
 refine (Sp.congr fun _ => cl_list).trans ?_
 unfold Sp
 refine Iff.trans ?_ Cl.ex
 refine Cl.congr fun p => ?_
 unfold Arr
 constructor
 ·rintro ⟨h1, h2, m, ⟨a, h3, h4⟩, h5⟩; exact ⟨a, h3, h1, h2, m, h4, h5⟩
 ·rintro ⟨a, h3, h1, h2, m, h4, h5⟩; exact ⟨h1, h2, m, ⟨a, h3, h4⟩, h5⟩
theorem rc_list {ar : List Ac} {l : List Int} {n : Int} : Rc ar l n ↔ ∃ a, a ∈ l ∧ Rc ar [a] n := by
 rw [rc_cl, cl_list]
 constructor
 ·rintro ⟨a, h1, h2⟩; exact ⟨a, h1, rc_cl.2 h2⟩
 ·rintro ⟨a, h1, h2⟩; exact ⟨a, h1, rc_cl.1 h2⟩
/-- A set's list, as numbers. -/
def elsI (ws : List Nat) : List Int := (els ws).map fun n : Nat => (n : Int)
theorem elsI_mem {ws : List Nat} {x : Int} : x ∈ elsI ws ↔ Els ws x := by
 unfold elsI
 rw [List.mem_map]
 constructor
 ·rintro ⟨k, h1, rfl⟩; exact ⟨k, rfl, (mem_els ws k).1 h1⟩
 ·rintro ⟨k, rfl, h1⟩; exact ⟨k, (mem_els ws k).2 h1, rfl⟩
theorem elsI_len (ws : List Nat) : (elsI ws).length = (els ws).length := by simp [elsI]
theorem sub_of {a b : List Nat} (ha : Wds a) (h : ∀ n, has a n = true → has b n = true) : subM a b = true := by
 rw [subM_iff]
 intro i
 apply Nat.eq_of_testBit_eq
 intro k
 rw [andn_bit, Nat.zero_testBit]
 cases e : (wat a i).testBit k with
 | false => rfl
 | true =>
  have hk : k < 64 := by
   apply Nat.lt_of_not_le
   intro hk
   have h1 := ha.wat i
   have h2 : wat a i < 2 ^ k := Nat.lt_of_lt_of_le (show wat a i < 2 ^ 64 from h1) (Nat.pow_le_pow_right (by decide) hk)
   rw [Nat.testBit_lt_two_pow h2] at e
   cases e
  have h1 := h (64 * i + k)
  unfold has at h1
  rw [show (64 * i + k) / 64 = i by omega, show (64 * i + k) % 64 = k by omega] at h1
  rw [h1 e]; rfl
def modL (m : Nat) (l : List Nat) : List Int := l.map fun n : Nat => ((n % m : Nat) : Int)
theorem modL_len (m : Nat) (l : List Nat) : (modL m l).length = l.length := by simp [modL]
theorem modL_take {m : Nat} {l : List Nat} {k : Nat} (hk : k < l.length) : (modL m l).take (k + 1) = (modL m l).take k ++ [((l[k] % m : Nat) : Int)] := by
 have h : k < (modL m l).length := by rw [modL_len]; exact hk
 have e : (modL m l)[k] = ((l[k] % m : Nat) : Int) := by simp only [modL, List.getElem_map]
 rw [List.take_succ_eq_append_getElem h, e]
theorem modL_bd {m : Nat} (hm : 0 < m) (l : List Nat) : ∀ x ∈ modL m l, 0 ≤ x ∧ x < (m : Int) := by
 intro x hx
 obtain ⟨n, _, rfl⟩ := List.mem_map.1 hx
 have := Nat.mod_lt n hm
 omega
/-- A law's own automaton in memory. -/
structure Xa (w : World) (xb n : Nat) (sv fv v : Value) (st : List Int) (fin : List Bool) (ar : List Ac) : Prop where
 box : w.heap[xb]? = some (.cells #[.int .i64 (n : Int), sv, fv, v] 32 (0, 0))
 s : Sl iv w sv st
 f : Sl bl w fv fin
 a : Acs w v ar
 t : Tab w
section
variable {w w' : World} {xb n : Nat} {sv fv v : Value} {st : List Int} {fin : List Bool} {ar : List Ac}
theorem Xa.below (h : Xa w xb n sv fv v st fin ar) (hb : Below w.heap.size w w') : Xa w' xb n sv fv v st fin ar := ⟨(hb.block _ (lt_of_some h.box)).trans h.box, h.s.below hb, h.f.below hb, h.a.below hb, h.t.below hb h.t.size⟩
theorem Xa.drew (h : Xa w xb n sv fv v st fin ar) (m : Nat) : Xa (w.drewN m) xb n sv fv v st fin ar := h.below (Below.drewN' (Below.refl _ w) m)
theorem Xa.cells (h : Xa w xb n sv fv v st fin ar) : w.cell? ⟨xb, 0, none⟩ = some (.int .i64 (n : Int)) ∧ w.cell? ⟨xb, 1, none⟩ = some sv ∧ w.cell? ⟨xb, 2, none⟩ = some fv ∧ w.cell? ⟨xb, 3, none⟩ = some v :=
 ⟨cell_of_row _ _ 0 _ _ _ h.box, cell_of_row _ _ 1 _ _ _ h.box, cell_of_row _ _ 2 _ _ _ h.box, cell_of_row _ _ 3 _ _ _ h.box⟩
theorem Xa.clo (h : Xa w xb n sv fv v st fin ar) (hv : VN n st fin ar) (A : Option Addr) (c : Nat) (l : List Int) (hl : Sl iv w (.slice A l.length c) l) (hll : l.length ≤ 1000000) (hbd : ∀ x ∈ l, 0 ≤ x ∧ x < (n : Int)) :
  Calls Tryd.prog 9 #[.agg #[.int .i64 (n : Int), sv, fv, v], .slice A l.length c] w (ExP (fun m => Rc ar l m) w) := exclosure_ok n st fin ar sv fv v A c l w hv h.s h.f h.a hl hll hbd
theorem Xa.step (h : Xa w xb n sv fv v st fin ar) (hv : VN n st fin ar) (A : Option Addr) (c : Nat) (l : List Int) (letter : Int) (hl : Sl iv w (.slice A l.length c) l) (hll : l.length ≤ 1000000) (hbd : ∀ x ∈ l, 0 ≤ x ∧ x < (n : Int)) :
  Calls Tryd.prog 11 #[.agg #[.int .i64 (n : Int), sv, fv, v], .slice A l.length c, .int .i64 letter] w (ExP (fun m => Sp ar (Cl ar (fun x => x ∈ l)) letter m) w) := exstep_ok n st fin ar sv fv v A c l letter w hv h.s h.f h.a hl hll hbd h.t
end
theorem SetIs.bd {w : World} {v : Value} {ws : List Nat} {P : Nat → Prop} {n : Nat} (h : SetIs w v ws P) (hP : ∀ m, P m → m < n) : ∀ x ∈ elsI ws, 0 ≤ x ∧ x < (n : Int) := by
 intro x hx
 obtain ⟨k, rfl, hk⟩ := elsI_mem.1 hx
 have := hP k ((h.has k).1 hk)
 omega
theorem rc_bd {S : Nat} {ar : List Ac} (hv : VA S ar) {l : List Int} (hl : ∀ x ∈ l, 0 ≤ x ∧ x < (S : Int)) (m : Nat) (h : Rc ar l m) : m < S := by
 have := Cl.bd hv hl (rc_cl.1 h); omega
theorem sp_bd {S : Nat} {ar : List Ac} (hv : VA S ar) {Q : Int → Prop} {c : Int} (m : Nat) (h : Sp ar Q c m) : m < S := by
 have := Sp.bd hv h; omega
/-- The list of a set: its words, its bound. -/
theorem listI_any (v : Value) (ws : List Nat) (w : World) (h : Wst w v ws) (hw : Wds ws) (hl : ws.length ≤ 64) (hT : Tab w) :
  Calls Tryd.prog 10 #[v] w fun e w' => ∃ A c, e = .returned (.slice A (elsI ws).length c) ∧ Sl iv w' (.slice A (elsI ws).length c) (elsI ws) ∧ Below w.heap.size w w' :=
 (list_any v ws w h.sl (by unfold Room2; omega) hw hT).mono fun e w' ⟨v', he, hs, hb⟩ => by
  have hs := hs.nv_iv
  obtain ⟨A, c, rfl⟩ := hs.shape
  exact ⟨A, c, he, hs, hb⟩
theorem elsI_le (ws : List Nat) : (elsI ws).length ≤ 4096 := by rw [elsI_len]; exact els_len_le ws
theorem equal_one {va vb : Value} {a b : List Nat} {w : World} {P Q : Nat → Prop} (ha : SetIs w va a P) (hb : SetIs w vb b Q) (h : ∀ n, P n ↔ Q n) : Calls Tryd.prog 12 #[va, vb] w fun e w' => e = .returned (.bool true) ∧ Below w.heap.size w w' := by
 have e : a = b := wds_uniq (P := P) ha.of ⟨hb.can, hb.wds, hb.len, fun n => (hb.has n).trans (h n).symm⟩
 subst e
 exact (equal_any va vb a a w ha.st.sl hb.st.sl (by have := ha.len; unfold Room2; omega) (by have := ha.len; unfold Room2; omega)).mono fun e w' ⟨he, m, hw⟩ => ⟨by rw [he, decide_eq_true rfl], by rw [hw]; exact Below.drewN' (Below.refl _ w) m⟩
theorem sub_one {va vb : Value} {a b : List Nat} {w : World} (ha : Sl uv w va a) (hb : Sl uv w vb b) (wa : Wds a) (wb : Wds b) (la : a.length ≤ 64) (lb : b.length ≤ 64) (h : ∀ n, has a n = true → has b n = true) : Calls Tryd.prog 13 #[va, vb] w fun e w' => e = .returned (.bool true) ∧ w = w' :=
 (sub_any va vb a b w ha hb (by unfold Room2; omega) (by unfold Room2; omega) wa wb).mono fun e w' ⟨he, hw⟩ => ⟨by rw [he, sub_of wa h], hw⟩
theorem union_one {va vb : Value} {a b : List Nat} {w : World} {P Q : Nat → Prop} (ha : SetIs w va a P) (hb : SetIs w vb b Q) : Calls Tryd.prog 15 #[va, vb] w (CloP (fun n => P n ∨ Q n) w) :=
 (union_any va vb a b w ha.st.sl hb.st.sl (by have := ha.len; unfold Room2; omega) (by have := hb.len; unfold Room2; omega) ha.wds hb.wds).mono fun e w' ⟨v, he, ho, hbl⟩ => ⟨v, _, he, or_setis ho ha.wds hb.wds ha.has hb.has, hbl⟩
theorem SetIs.congr {w : World} {v : Value} {ws : List Nat} {P Q : Nat → Prop} (h : SetIs w v ws P) (hq : ∀ n, P n ↔ Q n) : SetIs w v ws Q := ⟨h.st, h.can, h.wds, h.len, fun n => (h.has n).trans (hq n)⟩
theorem wst_shape {w : World} {v : Value} {ws : List Nat} (h : Wst w v ws) : ∃ A c, v = .slice A ws.length c := h.sl.shape
end Go.Proofs.YtockgbilbnheaaaDoor
