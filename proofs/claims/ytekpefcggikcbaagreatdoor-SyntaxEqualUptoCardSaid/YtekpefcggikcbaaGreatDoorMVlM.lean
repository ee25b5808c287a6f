/- Layer 10: what is valid, plainly; what is valid is small. -/
import Derived.Test.YtekpefcggikcbaaGreatDoorSvL
import Derived.Test.YtekpefcggikcbaaGreatDoorMPtAl
import Derived.Deep.LoopGhost
namespace Go.Proofs.YtekpefcggikcbaaGreatDoor
/- Layer 10: what is valid, plainly; what is valid is small. -/
open Go.RowKit

/-- Too many items, or too deep ones. -/
def tooB (a : Nat) (left : Int) (n : Nat) : Bool := decide (left < (n : Int)) || (decide (0 < n) && decide (a = 10))
mutual
def visX (a : Nat) (left : Int) : It → Option Int
 | .mk k fr to nm al tk bl => if hdB k fr to nm al tk bl.length = true then visB (a + 1) left bl else none
def visL (a : Nat) (left : Int) : List It → Option Int
 | [] => some left
 | x :: r => match visX a left x with
  | none => none
  | some l1 => visL a l1 r
def visB (a : Nat) (left : Int) : List (List It) → Option Int
 | [] => some left
 | b :: r => if tooB a left b.length = true then none else match visL a (left - b.length) b with
  | none => none
  | some l1 => visB a l1 r
end
def visI (a : Nat) (left : Int) (l : List It) : Option Int := if tooB a left l.length = true then none else visL a (left - l.length) l
def vpB (p : Pr) : Bool := wdB p.nm && (alB wdB 1 6 p.rs && (alB vmB 0 40 p.ms && (visI 0 300 p.bd).isSome))
def vB (ps : List Pr) : Bool := alB vpB 0 10 ps && decide ((canonB ps).length ≤ 8000)

theorem wd_len {x : Bs} (h : wdB x = true) : x.length ≤ 16 := by
 unfold wdB nmB at h
 simp only [Bool.and_eq_true, decide_eq_true_eq] at h
 exact h.1.2.1
theorem pa_len {x : Bs} (h : paB x = true) : x.length ≤ 50 := by
 unfold paB at h
 simp only [Bool.and_eq_true, decide_eq_true_eq] at h
 exact h.1
theorem al_iff {α : Type} {q : α → Bool} {lo hi : Int} {l : List α} (h : alB q lo hi l = true) : lo ≤ l.length ∧ l.length ≤ hi ∧ ∀ x ∈ l, q x = true := by
 unfold alB at h
 rw [Bool.and_eq_true] at h
 have := fr_iff h.1
 exact ⟨this.1, this.2, List.all_eq_true.1 h.2⟩
theorem cn_sm {n : Int} (h : cnB n = true) : SmN n := fr_iff h
theorem vs_sm {k lo hi : Int} (h : vsB k lo hi = true) : SmN lo ∧ SmN hi := by
 unfold vsB at h
 split at h
 ·rw [Bool.and_eq_true] at h; exact ⟨cn_sm h.1, cn_sm h.2⟩
 ·split at h
  ·rw [Bool.and_eq_true] at h
   have h1 := fr_iff h.1
   have h2 := fr_iff h.2
   exact ⟨⟨by omega, by omega⟩, ⟨by omega, by omega⟩⟩
  ·cases h
theorem vf_sm {f : Fd} (h : vfB f = true) : SmFd f := by
 unfold vfB at h
 rw [Bool.and_eq_true] at h
 exact ⟨Nat.le_trans (wd_len h.1) (by decide), (vs_sm h.2).1, (vs_sm h.2).2⟩
theorem vt_sm {t : Tm} (h : vtB t = true) : SmTm t := by
 unfold vtB at h
 split at h
 ·simp only [Bool.and_eq_true, decide_eq_true_eq] at h
  exact ⟨by rw [h.1]; simp, by rw [h.2.1]; simp, cn_sm h.2.2⟩
 ·split at h
  ·simp only [Bool.and_eq_true, Bool.or_eq_true, decide_eq_true_eq] at h
   refine ⟨?_, Nat.le_trans (wd_len h.2.1) (by decide), cn_sm h.2.2⟩
   rcases h.1 with h1 | h1
   ·rw [h1]; simp
   ·exact Nat.le_trans (pa_len h1) (by decide)
  ·cases h
theorem op_len {x : Bs} (h : opB x = true) : x.length ≤ 1000 := by
 unfold opB at h
 simp only [decide_eq_true_eq, List.mem_cons, List.not_mem_nil, or_false] at h
 rcases h with rfl | rfl | rfl | rfl | rfl <;> decide
theorem va_sm {a : Am} (h : vaB a = true) : SmAm a := by
 unfold vaB at h
 simp only [Bool.and_eq_true] at h
 exact ⟨vt_sm h.1, op_len h.2.1, vt_sm h.2.2⟩
theorem vm_sm {m : Ms} (h : vmB m = true) : SmMs m := by
 unfold vmB at h
 simp only [Bool.and_eq_true] at h
 obtain ⟨h1, h2, h3⟩ := h
 have h2 := al_iff h2
 have h3 := al_iff h3
 exact ⟨Nat.le_trans (pa_len h1) (by decide), by omega, fun f hf => vf_sm (h2.2.2 f hf), by omega, fun a ha => va_sm (h3.2.2 a ha)⟩
/-- What a valid head says of sizes. -/
theorem hd_sm {k : Int} {fr : Bs} {to : List Bs} {nm al : Bs} {tk : Int} {n : Nat} (h : hdB k fr to nm al tk n = true) :
  fr.length ≤ 1000 ∧ (to.length ≤ 100 ∧ ∀ x ∈ to, x.length ≤ 16) ∧ nm.length ≤ 50 ∧ al.length ≤ 16 ∧ fr.length ≤ 16 ∧ to.length ≤ 6 ∧ 0 ≤ tk ∧ tk ≤ 999999 ∧ n ≤ 8 := by
 unfold hdB at h
 split at h
 ·simp only [Bool.and_eq_true, decide_eq_true_eq] at h
  obtain ⟨h1, h2, h3, rfl, rfl, rfl⟩ := h
  have h2 := al_iff h2
  have h1 := wd_len h1
  have h3 := pa_len h3
  exact ⟨by omega, ⟨by omega, fun x hx => wd_len (h2.2.2 x hx)⟩, by omega, by simp, by omega, by omega, by omega, by omega, by omega⟩
 split at h
 ·simp only [Bool.and_eq_true, decide_eq_true_eq] at h
  obtain ⟨h1, h2, h3, rfl, rfl, rfl⟩ := h
  have h2 := fr_iff h2
  have h3 := fr_iff h3
  have h1 := wd_len h1
  exact ⟨by omega, ⟨by simp, by simp⟩, by simp, by simp, by omega, by simp, by omega, by omega, by omega⟩
 split at h
 ·simp only [Bool.and_eq_true, decide_eq_true_eq] at h
  obtain ⟨h1, rfl, rfl, rfl, rfl, rfl⟩ := h
  have h1 := pa_len h1
  exact ⟨by simp, ⟨by simp, by simp⟩, by omega, by simp, by simp, by simp, by omega, by omega, by omega⟩
 split at h
 ·simp only [Bool.and_eq_true, decide_eq_true_eq] at h
  obtain ⟨h1, rfl, rfl, rfl, rfl, rfl⟩ := h
  have h1 := pa_len h1
  exact ⟨by simp, ⟨by simp, by simp⟩, by omega, by simp, by simp, by simp, by omega, by omega, by omega⟩
 split at h
 ·simp only [Bool.and_eq_true, decide_eq_true_eq] at h
  obtain ⟨h1, rfl, rfl, rfl, rfl, rfl⟩ := h
  have h1 := fr_iff h1
  exact ⟨by simp, ⟨by simp, by simp⟩, by simp, by simp, by simp, by simp, by omega, by omega, by omega⟩
 split at h
 ·simp only [Bool.and_eq_true, decide_eq_true_eq] at h
  obtain ⟨h1, h2, h3, rfl, rfl, rfl⟩ := h
  have h2 := al_iff h2
  have h1 := wd_len h1
  have h3 := wd_len h3
  exact ⟨by simp, ⟨by omega, fun x hx => wd_len (h2.2.2 x hx)⟩, by omega, by omega, by simp, by omega, by omega, by omega, by omega⟩
 ·cases h
mutual
/-- Items whose heads are valid. -/
def HdX : It → Prop
 | .mk k fr to nm al tk bl => hdB k fr to nm al tk bl.length = true ∧ HdB bl
def HdL : List It → Prop
 | [] => True
 | x :: r => HdX x ∧ HdL r
def HdB : List (List It) → Prop
 | [] => True
 | b :: r => HdL b ∧ HdB r
end
mutual
theorem visX_sm (a : Nat) (left l1 : Int) : ∀ x : It, visX a left x = some l1 → HdX x ∧ l1 ≤ left ∧ (nIt x : Int) ≤ 10 * (left - l1) + 9 ∧ (0 ≤ left → 0 ≤ l1)
 | .mk k fr to nm al tk bl => by
  intro h
  rw [visX] at h
  split at h
  ·rename_i hh
   obtain ⟨h1, h2, h3, h0⟩ := visB_sm (a + 1) left l1 bl h
   have := (hd_sm hh).2.2.2.2.2.2.2.2
   exact ⟨⟨hh, h1⟩, h2, by rw [nIt]; omega, h0⟩
  ·cases h
theorem visL_sm (a : Nat) (left l1 : Int) : ∀ l : List It, visL a left l = some l1 → HdL l ∧ l1 ≤ left ∧ (nIs l : Int) ≤ 10 * (left - l1) + 10 * l.length ∧ (0 ≤ left → 0 ≤ l1)
 | [] => by intro h; rw [visL] at h; cases h; exact ⟨trivial, by omega, by rw [nIs]; simp, id⟩
 | x :: r => by
  intro h
  rw [visL] at h
  split at h
  ·cases h
  ·rename_i l2 hx
   obtain ⟨h1, h2, h3, h0⟩ := visX_sm a left l2 x hx
   obtain ⟨h4, h5, h6, h7⟩ := visL_sm a l2 l1 r h
   exact ⟨⟨h1, h4⟩, by omega, by rw [nIs, List.length_cons]; omega, fun h => h7 (h0 h)⟩
theorem visB_sm (a : Nat) (left l1 : Int) : ∀ l : List (List It), visB a left l = some l1 → HdB l ∧ l1 ≤ left ∧ (nBl l : Int) ≤ 10 * (left - l1) + l.length ∧ (0 ≤ left → 0 ≤ l1)
 | [] => by intro h; rw [visB] at h; cases h; exact ⟨trivial, by omega, by rw [nBl]; simp, id⟩
 | b :: r => by
  intro h
  rw [visB] at h
  split at h
  ·cases h
  ·rename_i hto
   have hto2 : ¬ left < (b.length : Int) := by
    unfold tooB at hto
    simp only [Bool.or_eq_true, decide_eq_true_eq] at hto
    omega
   split at h
   ·cases h
   ·rename_i l2 hx
    obtain ⟨h1, h2, h3, h0⟩ := visL_sm a (left - b.length) l2 b hx
    obtain ⟨h4, h5, h6, h7⟩ := visB_sm a l2 l1 r h
    exact ⟨⟨h1, h4⟩, by omega, by rw [nBl, List.length_cons]; omega, fun h => h7 (h0 (by omega))⟩
end
mutual
theorem HdX.sm : ∀ x : It, HdX x → SmIt x
 | .mk k fr to nm al tk bl => by
  intro h
  rw [HdX] at h
  obtain ⟨h1, h2, h3, h4, h5, h6, h7, h8, h9⟩ := hd_sm h.1
  rw [SmIt]
  exact ⟨h1, ⟨h2.1, fun x hx => Nat.le_trans (h2.2 x hx) (by decide)⟩, by omega, by omega, h7, h8, by omega, HdB.sm bl h.2⟩
theorem HdL.sm : ∀ l : List It, HdL l → SmIs l
 | [] => fun _ => by rw [SmIs]; trivial
 | x :: r => fun h => by rw [HdL] at h; rw [SmIs]; exact ⟨HdX.sm x h.1, HdL.sm r h.2⟩
theorem HdB.sm : ∀ l : List (List It), HdB l → SmBl l
 | [] => fun _ => by rw [SmBl]; trivial
 | x :: r => fun h => by rw [HdB] at h; rw [SmBl]; exact ⟨HdL.sm x h.1, HdB.sm r h.2⟩
end
theorem joinB_le (sep : Bs) (m : Nat) : ∀ l : List Bs, (∀ x ∈ l, x.length ≤ m) → (joinB sep l).length ≤ l.length * (m + sep.length)
 | [], _ => by simp [joinB]
 | [a], h => by have := h a (by simp); simp [joinB]; omega
 | a :: b :: r, h => by
  have h1 := h a (by simp)
  have h2 := joinB_le sep m (b :: r) fun x hx => h x (by simp at hx ⊢; exact .inr hx)
  rw [joinB, List.length_append, List.length_append, List.length_cons (a := a), Nat.add_mul]
  omega
theorem lineB_len (d : Nat) (ps : List Bs) : (lineB d ps).length = d + (ps.map List.length).sum + 1 := by
 unfold lineB
 simp [List.length_flatten]
 omega
mutual
theorem itB_le (N d : Nat) : ∀ x : It, HdX x → d + nIt x ≤ N → (itB d x).length ≤ nIt x * (2000 + N)
 | .mk k fr to nm al tk bl => by
  intro h hN
  rw [HdX] at h
  obtain ⟨h1, h2, h3, h4, h5, h6, h7, h8, h9⟩ := hd_sm h.1
  rw [nIt] at hN ⊢
  have hB : ∀ head kw : Bs, head.length ≤ 200 → kw.length ≤ 10 → ∀ n i, (blksB d head kw tk n i bl).length ≤ (nBl bl + 1) * (2000 + N) := fun head kw hh hk n i => blksB_le N d head kw tk n hh hk bl i h.2 hN
  have hj := joinB_le [44, 32] 16 to h2.2
  have hj2 : to.length * (16 + ([44, 32] : Bs).length) ≤ 6 * 18 := Nat.mul_le_mul h6 (by decide)
  have hC : 2000 + N ≤ (nBl bl + 1) * (2000 + N) := Nat.le_mul_of_pos_left _ (Nat.succ_pos _)
  have hw : (withinB tk).length ≤ 108 := by
   unfold withinB
   split
   ·simp
   ·have := itoa_len tk (by omega) (by omega)
    simp; omega
  have hd : d + 1 ≤ N := by omega
  rw [itB]
  split
  ·rw [lineB_len]; simp; omega
  split
  ·exact hB _ _ (by simp; omega) (by simp) _ _
  split
  ·exact hB _ _ (by simp; omega) (by simp) _ _
  split
  ·rw [lineB_len]; simp; omega
  split
  ·exact hB _ _ (by simp) (by simp) _ _
  split
  ·rw [lineB_len]; unfold listedB; simp; omega
  ·simp
theorem itsB_le (N d : Nat) : ∀ l : List It, HdL l → d + nIs l ≤ N → (itsB d l).length ≤ nIs l * (2000 + N)
 | [] => by intro _ _; rw [itsB]; simp
 | x :: r => by
  intro h hN
  rw [HdL] at h
  rw [nIs] at hN ⊢
  have h1 := itB_le N d x h.1 (by omega)
  have h2 := itsB_le N d r h.2 (by omega)
  rw [itsB, List.length_append, Nat.add_mul, Nat.add_mul]
  omega
theorem blksB_le (N d : Nat) (head kw : Bs) (tk : Int) (n : Nat) (hh : head.length ≤ 200) (hk : kw.length ≤ 10) : ∀ (l : List (List It)) (i : Nat), HdB l → d + (nBl l + 1) ≤ N → (blksB d head kw tk n i l).length ≤ (nBl l + 1) * (2000 + N)
 | [], i => by intro _ hN; rw [blksB, lineB_len, nBl]; rw [nBl] at hN; simp; omega
 | b :: r, i => by
  intro h hN
  rw [HdB] at h
  rw [nBl] at hN ⊢
  have h1 := itsB_le N (d + 1) b h.1 (by omega)
  have h2 := blksB_le N d head kw tk n hh hk r (i + 1) h.2 (by omega)
  have h3 : (if i = 0 then lineB d [head, [32, 123]] else if 0 < tk ∧ i + 1 = n then lineB d [[125, 32, 101, 108, 115, 101, 32, 123]] else lineB d [[125, 32], kw, [32, 123]]).length ≤ 2000 + N := by
   split
   ·rw [lineB_len]; simp; omega
   split
   ·rw [lineB_len]; simp; omega
   ·rw [lineB_len]; simp; omega
  rw [blksB, List.length_append, List.length_append]
  rw [show (nIs b + nBl r + 1 + 1) * (2000 + N) = nIs b * (2000 + N) + (nBl r + 1) * (2000 + N) + (2000 + N) by simp only [Nat.add_mul]; omega]
  omega
end
theorem flatB_le {α : Type} {f : α → Bs} {m : Nat} : ∀ l : List α, (∀ x ∈ l, (f x).length ≤ m) → (l.flatMap f).length ≤ l.length * m
 | [], _ => by simp
 | a :: r, h => by
  have h1 := h a (by simp)
  have h2 := flatB_le r fun x hx => h x (by simp [hx])
  rw [List.flatMap_cons, List.length_append, List.length_cons, Nat.add_mul]
  omega
theorem msgB_le {m : Ms} (h : vmB m = true) : (msgB 1 m).length ≤ 60000 := by
 have hs := vm_sm h
 unfold vmB at h
 simp only [Bool.and_eq_true] at h
 obtain ⟨h1, h2, h3⟩ := h
 have h1 := pa_len h1
 have h2 := al_iff h2
 have h3 := al_iff h3
 have hf := joinB_le [44, 32] 2000 (m.fs.map showFieldB) (by
  intro x hx
  obtain ⟨f, hf, rfl⟩ := List.mem_map.1 hx
  exact showField_len f (hs.fs f hf))
 have hw := joinB_le [32, 97, 110, 100, 32] 6000 (m.wh.map showAtomB) (by
  intro x hx
  obtain ⟨f, hf, rfl⟩ := List.mem_map.1 hx
  exact showAtom_len f (hs.wh f hf))
 rw [List.length_map] at hf hw
 have hf2 : m.fs.length * (2000 + ([44, 32] : Bs).length) ≤ 4 * 2002 := Nat.mul_le_mul (by omega) (by decide)
 have hw2 : m.wh.length * (6000 + ([32, 97, 110, 100, 32] : Bs).length) ≤ 6 * 6005 := Nat.mul_le_mul (by omega) (by decide)
 have hw3 : (whereB m.wh).length ≤ 6 * 6005 + 7 := by
  unfold whereB
  split
  ·simp
  ·simp only [List.length_append, List.length_cons, List.length_nil]; omega
 unfold msgB
 rw [lineB_len]
 unfold listedB
 simp
 omega
theorem vp_sm {p : Pr} (h : vpB p = true) : SmPr p ∧ (prB p).length ≤ 30000000 := by
 unfold vpB at h
 simp only [Bool.and_eq_true] at h
 obtain ⟨h1, h2, h3, h4⟩ := h
 have h1 := wd_len h1
 have h2 := al_iff h2
 have h3 := al_iff h3
 obtain ⟨l1, h4⟩ := Option.isSome_iff_exists.1 h4
 unfold visI at h4
 split at h4
 ·cases h4
 rename_i hto
 have hlen : (p.bd.length : Int) ≤ 300 := by
  unfold tooB at hto
  simp only [Bool.or_eq_true, decide_eq_true_eq] at hto
  omega
 obtain ⟨h5, h6, h7, h8⟩ := visL_sm 0 _ l1 p.bd h4
 have h8 := h8 (by omega)
 have hn : nIs p.bd ≤ 3000 := by omega
 have hb := itsB_le 4000 1 p.bd h5 (by omega)
 have hb2 : nIs p.bd * (2000 + 4000) ≤ 3000 * 6000 := Nat.mul_le_mul hn (by decide)
 have hm := flatB_le (f := msgB 1) (m := 60000) p.ms fun m hm => msgB_le (h3.2.2 m hm)
 have hm2 : p.ms.length * 60000 ≤ 40 * 60000 := Nat.mul_le_mul_right _ (by omega)
 have hr := joinB_le [44, 32] 16 p.rs fun x hx => wd_len (h2.2.2 x hx)
 have hr2 : p.rs.length * (16 + ([44, 32] : Bs).length) ≤ 6 * 18 := Nat.mul_le_mul (by omega) (by decide)
 refine ⟨⟨by omega, by omega, fun x hx => Nat.le_trans (wd_len (h2.2.2 x hx)) (by decide), by omega, fun m hm => vm_sm (h3.2.2 m hm), HdL.sm _ h5, by omega⟩, ?_⟩
 unfold prB
 rw [List.length_append, List.length_append, List.length_append, lineB_len, lineB_len]
 unfold listedB
 simp only [List.length_append, List.length_cons, List.length_nil, List.map_cons, List.map_nil, List.sum_cons, List.sum_nil]
 omega
theorem vall_sm {ps : List Pr} (h : alB vpB 0 10 ps = true) : (∀ p ∈ ps, SmPr p) ∧ ps.length ≤ 10000 ∧ (canonB ps).length ≤ 1000000000 := by
 have h := al_iff h
 have hc := flatB_le (f := prB) (m := 30000000) ps fun p hp => (vp_sm (h.2.2 p hp)).2
 have hc2 : ps.length * 30000000 ≤ 10 * 30000000 := Nat.mul_le_mul_right _ (by omega)
 exact ⟨fun p hp => (vp_sm (h.2.2 p hp)).1, by omega, by unfold canonB; omega⟩
/- Layer 10: the contract of validItems, for items of any depth. -/
open Go.RowKit

def VisPost (w : World) (b : Nat) (r : Option Int) (e : Ending) (w' : World) : Prop :=
 Only b w w' ∧ ((r = none ∧ e = .returned (.bool false)) ∨ ∃ l1 : Int, r = some l1 ∧ 0 ≤ l1 ∧ l1 ≤ 1000 ∧ e = .returned (.bool true) ∧ Bx w' b 3 #[.int .i64 l1])
def VisOK (n : Nat) : Prop := ∀ (w : World) (b a : Nat) (left : Int) (its : List It) (v : Value) (S : Nat → Prop), nIs its < n → Bx w b 3 #[.int .i64 left] → Lies w S v (dB its) → ¬ S b → a ≤ 10 → 0 ≤ left → left ≤ 1000 →
 Calls Tryz.prog 91 #[v, .int .i64 (a : Int), .pointer (some ⟨b, 0, none⟩)] w (VisPost w b (visI a left its))
def ViRel (W0 : World) (b a : Nat) (its : List It) (R : Option Int) (gk : Nat) (v : Value) (wr : World) : Prop :=
 ∃ (i : Nat) (lf : Int), v = .int .i64 (i : Int) ∧ i ≤ its.length ∧ its.length ≤ gk + i ∧ 0 ≤ lf ∧ lf ≤ 1000 ∧ Hid (Bx wr b 3 #[.int .i64 lf]) ∧ Hid (Only b W0 wr) ∧ Hid (visL a lf (its.drop i) = R)
def VbRel (W0 : World) (b a : Nat) (bl : List (List It)) (R : Option Int) (gk : Nat) (v : Value) (wr : World) : Prop :=
 ∃ (i : Nat) (lf : Int), v = .int .i64 (i : Int) ∧ i ≤ bl.length ∧ bl.length ≤ gk + i ∧ 0 ≤ lf ∧ lf ≤ 1000 ∧ Hid (Bx wr b 3 #[.int .i64 lf]) ∧ Hid (Only b W0 wr) ∧ Hid (visB a lf (bl.drop i) = R)
theorem visL_cons (a : Nat) (lf : Int) (x : It) (r : List It) : visL a lf (x :: r) = (visX a lf x).bind fun l1 => visL a l1 r := by rw [visL]; cases visX a lf x <;> rfl
theorem visB_cons (a : Nat) (lf : Int) (x : List It) (r : List (List It)) : visB a lf (x :: r) = (visI a lf x).bind fun l1 => visB a l1 r := by
 rw [visB]; unfold visI
 split
 ·rfl
 ·cases visL a (lf - x.length) x <;> rfl
theorem Lies.only' {w w' : World} {g : Nat} {S : Nat → Prop} {v : Value} {d : D} (h : Lies w S v d) (ho : Only g w w') (hg : ¬ S g) : Lies w' S v d :=
 h.keep ho.size fun k hk hS => ho.block k hk (by intro e; rw [e] at hS; exact hg hS)
section
variable {n : Nat}
set_option maxRecDepth 20000 in
set_option maxHeartbeats 8000000 in
theorem visOK_succ (hV : VisOK n) : VisOK (n + 1) := by
 intro w b a left its v S hn hb hL hS ha h0 h1
 obtain ⟨A, m, c, rfl, hm⟩ := Lies.slc (show Lies w S v (.s 7 (dIs its)) from hL)
 have hm' : m = its.length := by rw [dIs_map, flat_len dIt_len] at hm; omega
 subst hm'
 have c0 : w.cell? ⟨b, 0, none⟩ = some (.int .i64 left) := hb.cell 0
 have f0 := hb.free 0
 clear hm
 by_cases g1 : left < (its.length : Int)
 ·have H := Lib.hid (show visI a left its = none by unfold visI tooB; rw [if_pos]; simp [g1])
  clear hL hS hn hV h0 h1 ha
  go_enter Tryz.func91, Tryz.ntmps91
  go_wp2_with fail
  go_ret
  exact ⟨Only.refl _ _, .inl ⟨H.out, rfl⟩⟩
 ·by_cases g2 : (0 : Int) < (its.length : Int) ∧ a = 10
  ·obtain ⟨g2, rfl⟩ := g2
   have H := Lib.hid (show visI 10 left its = none by unfold visI tooB; rw [if_pos]; simp; right; omega)
   clear hL hS hn hV h0 h1 ha
   go_enter Tryz.func91, Tryz.ntmps91
   go_wp2_with fail
   go_ret
   exact ⟨Only.refl _ _, .inl ⟨H.out, rfl⟩⟩
  ·have hwr : wrap64 (left - (its.length : Int)) = left - (its.length : Int) := by unfold wrap64; omega
   have HI := Lib.hid (show visI a left its = visL a (left - its.length) its by
    unfold visI tooB
    rw [if_neg]
    simp only [Bool.or_eq_true, Bool.and_eq_true, decide_eq_true_eq]
    rintro (h | ⟨h, h'⟩)
    ·exact g1 h
    ·exact g2 ⟨by omega, h'⟩)
   obtain ⟨ln, hln⟩ : ∃ ln : Int, left - (its.length : Int) = ln := ⟨_, rfl⟩
   have hn0 : 0 ≤ ln := by omega
   have hn1 : ln ≤ 1000 := by omega
   have hlen : its.length ≤ 1000 := by omega
   have HLN := Lib.hid hln
   obtain ⟨W0, hW0⟩ : ∃ W0, w.setCell ⟨b, 0, none⟩ (.int .i64 ln) = W0 := ⟨_, rfl⟩
   have O0 := Lib.hid (show Only b w W0 by rw [← hW0]; exact (Only.refl b w).set 0 _)
   have B0 := Lib.hid (show Bx W0 b 3 #[.int .i64 ln] by rw [← hW0]; exact hb.set 0 _)
   have L0 := Lib.hid (hL.only' O0.out hS)
   have HS := Lib.hid hS
   have HW0 := Lib.hid hW0
   have HN := Lib.hid hn
   have HV := Lib.hid hV
   have HA := Lib.hid ha
   obtain ⟨R, hR⟩ : ∃ R, visL a ln its = R := ⟨_, rfl⟩
   have HR := Lib.hid hR
   have HIR := Lib.hid (show visI a left its = R by rw [HI.out, hln, hR])
   rw [HIR.out]
   have hB := Lib.hid hb
   have hwl : wrap64 ((a : Int) + 1) = (a : Int) + 1 := by unfold wrap64; omega
   have hcase : (¬ (0 : Int) < (its.length : Int)) ∨ ((0 : Int) < (its.length : Int) ∧ ((a : Int) == 10) = false) := by
    by_cases g3 : (0 : Int) < (its.length : Int)
    ·exact .inr ⟨g3, by rw [beq_eq_false_iff_ne]; intro e; exact g2 ⟨g3, by omega⟩⟩
    ·exact .inl g3
   clear hL hS hn hV h0 h1 ha g2 hW0 hR HI hln hb
   rcases hcase with g3 | ⟨g3, g4⟩
   ·go_enter Tryz.func91, Tryz.ntmps91
    go_wp2_with fail
    rw [HLN.out, HW0.out]
    clear hwr
    go_loopg [35] its.length (fun gk vi wr => ViRel W0 b a its R gk vi wr)
    case atStart => exact ⟨0, ln, rfl, by omega, by omega, hn0, hn1, B0, Only.refl _ _, HR⟩
    case round =>
     obtain ⟨i, lf, rfl, hil, hgk, hf0, hf1, HB, HO, HE⟩ := hrel
     by_cases hie : i = its.length
     ·have hc : ¬ ((i : Int) < (its.length : Int)) := by omega
      have HF := Lib.hid (show R = some lf by rw [← HE.out, hie, List.drop_length, visL])
      clear hie
      go_wp2_with fail
      go_ret
      exact ⟨O0.out.trans HO.out, .inr ⟨lf, HF.out, hf0, hf1, rfl, HB.out⟩⟩
     ·exfalso; omega
   ·go_enter Tryz.func91, Tryz.ntmps91
    go_wp2_with fail
    rw [HLN.out, HW0.out]
    clear hwr
    go_loopg [35] its.length (fun gk vi wr => ViRel W0 b a its R gk vi wr)
    case atStart => exact ⟨0, ln, rfl, by omega, by omega, hn0, hn1, B0, Only.refl _ _, HR⟩
    case round =>
     obtain ⟨i, lf, rfl, hil, hgk, hf0, hf1, HB, HO, HE⟩ := hrel
     by_cases hie : i = its.length
     ·have hc : ¬ ((i : Int) < (its.length : Int)) := by omega
      have HF := Lib.hid (show R = some lf by rw [← HE.out, hie, List.drop_length, visL])
      clear hie
      go_wp2_with fail
      go_ret
      exact ⟨O0.out.trans HO.out, .inr ⟨lf, HF.out, hf0, hf1, rfl, HB.out⟩⟩
     ·have hc : (i : Int) < (its.length : Int) := by omega
      have hlt2 : i < its.length := by omega
      obtain ⟨x, hx⟩ : ∃ x, its[i]? = some x := ⟨its[i], List.getElem?_eq_getElem hlt2⟩
      have HE2 := Lib.hid (show (visX a lf x).bind (fun l1 => visL a l1 (its.drop (i + 1))) = R by
       rw [← HE.out, List.drop_eq_getElem_cons hlt2, visL_cons, (List.getElem?_eq_some_iff.1 hx).2])
      have hnx := nIs_at hx
      obtain ⟨k, fr, to, nm, al, tk, bl⟩ := x
      have HNB := Lib.hid (show nBl bl < n by have := HN.out; rw [nIt] at hnx; omega)
      have LW := Lib.hid (L0.out.only' HO.out HS.out)
      obtain ⟨bb, o, n', c', he, hn', -, hbl2, hcell⟩ := sl_cell (z := 7) LW.out (by rw [dIs_map]; intro e0; have := congrArg List.length e0; rw [flat_len dIt_len, List.length_nil] at this; omega)
      simp only [Value.slice.injEq] at he
      obtain ⟨rfl, -, rfl⟩ := he
      obtain ⟨At, ct, Ab, cb, u0, u1, u2, u3, u4, u5, u6, hI⟩ := it_cells hcell hx
      have HI := Lib.hid hI
      obtain ⟨W1, hW1⟩ : ∃ W, wr.alloc (.cells #[.int .i64 k, .string (ofL fr), .slice At to.length ct, .string (ofL nm), .string (ofL al), .int .i64 tk, .slice Ab bl.length cb] 70) = W := ⟨_, rfl⟩
      have A1 := Lib.hid (show Below wr.heap.size wr W1 by rw [← hW1]; exact (Below.refl wr.heap.size wr).alloc (Nat.le_refl _) _)
      have X1 := Lib.hid (show Bx W1 wr.heap.size 70 #[.int .i64 k, .string (ofL fr), .slice At to.length ct, .string (ofL nm), .string (ofL al), .int .i64 tk, .slice Ab bl.length cb] by rw [← hW1]; exact Bx.new wr _ _)
      have HW1 := Lib.hid hW1
      obtain ⟨z0, z1, z2, z3, z4, z5, z6⟩ := X1.out.k7
      have M1 := Lib.hid (HI.out.1.belowT A1.out)
      clear hx hcell hbl2 HE hie hI hnx hW1
      cases hhd : hdB k fr to nm al tk bl.length with
      | false =>
       have HF := Lib.hid (show R = none by rw [← HE2.out, visX, if_neg (by rw [hhd]; simp)]; rfl)
       have HHD := Lib.hid hhd
       clear hhd
       go_wp2_with fail
       rw [HW1.out]
       refine (validItem_any k tk fr nm al to _ Ab bl.length cb M1.out).mono ?_; rintro e w4 ⟨rfl, hb4⟩; rw [HHD.out]
       have O4 := Lib.hid ((HO.out.below A1.out).below hb4)
       clear hb4 z0 z1 z2 z3 z4 z5 z6
       go_wp2_with fail
       go_ret
       exact ⟨O0.out.trans O4.out, .inl ⟨HF.out, rfl⟩⟩
      | true =>
       obtain ⟨RB, hRB⟩ : ∃ RB, visB (a + 1) lf bl = RB := ⟨_, rfl⟩
       have HRB := Lib.hid hRB
       have HF := Lib.hid (show RB.bind (fun l1 => visL a l1 (its.drop (i + 1))) = R by rw [← HE2.out, visX, if_pos hhd, hRB])
       have HNL := Lib.hid (show bl.length ≤ 8 from (hd_sm hhd).2.2.2.2.2.2.2.2)
       have hbl8 : bl.length ≤ 1000 := by have := HNL.out; omega
       have HHD := Lib.hid hhd
       have ha10 : (a : Int) ≤ 10 := by have := HA.out; omega
       clear hhd hRB
       go_wp2_with fail
       rw [HW1.out]
       refine (validItem_any k tk fr nm al to _ Ab bl.length cb M1.out).mono ?_; rintro e w4 ⟨rfl, hb4⟩; rw [HHD.out]
       have O4 := Lib.hid ((HO.out.below A1.out).below hb4)
       have X4 := X1.out.below hb4
       have y6 : w4.cell? ⟨wr.heap.size, 6, none⟩ = some (.slice Ab bl.length cb) := X4.cell 6
       have B4 := Lib.hid ((HB.out.below A1.out).below hb4)
       have NB := Lib.hid ((HI.out.2.belowT A1.out).belowT hb4)
       clear hb4 X4 z0 z1 z2 z3 z4 z5 z6 u0 u1 u2 u3 u4 u5 u6
       go_wp2_with fail
       clear y6
       generalize gk = gO at *
       have HGO := Lib.hid hgk
       have HIL := Lib.hid hil
       go_loopg [45] bl.length (fun gk vi wr => VbRel w4 b (a + 1) bl RB gk vi wr)
       case atStart => exact ⟨0, lf, rfl, by omega, by omega, hf0, hf1, B4, Only.refl _ _, HRB⟩
       case round =>
        clear hil hgk hf0 hf1
        obtain ⟨j, lg, rfl, hjl, hgk2, hf0, hf1, HB2, HO2, HE5⟩ := hrel
        by_cases hje : j = bl.length
        ·have hc2 : ¬ ((j : Int) < (bl.length : Int)) := by omega
         have HF2 := Lib.hid (show visL a lg (its.drop (i + 1)) = R by
          have h5 := HE5.out
          rw [hje, List.drop_length, visB] at h5
          rw [← HF.out, ← h5]; rfl)
         clear hje
         go_wp2_with fail
         go_roundg (gO - 1)
         case rel => exact ⟨i + 1, lg, by simp, by have := HIL.out; omega, by have := HGO.out; omega, hf0, hf1, HB2, O4.out.trans HO2.out, HF2⟩
         case measure => have := HGO.out; omega
        ·have hc2 : (j : Int) < (bl.length : Int) := by omega
         have hlt3 : j < bl.length := by omega
         obtain ⟨y, hy⟩ : ∃ y, bl[j]? = some y := ⟨bl[j], List.getElem?_eq_getElem hlt3⟩
         have HE6 := Lib.hid (show (visI (a + 1) lg y).bind (fun l1 => visB (a + 1) l1 (bl.drop (j + 1))) = RB by
          rw [← HE5.out, List.drop_eq_getElem_cons hlt3, visB_cons, (List.getElem?_eq_some_iff.1 hy).2])
         have hny := nBl_at hy
         have NW := Lib.hid (NB.out.only' HO2.out HS.out)
         obtain ⟨bb2, o2, n2', c2', he, hn2', -, hbl3, hcell2⟩ := sl_cell (z := 1) NW.out (by rw [dBl_map]; intro e0; have := congrArg List.length e0; rw [fm1, List.length_map, List.length_nil] at this; omega)
         simp only [Value.slice.injEq] at he
         obtain ⟨rfl, -, rfl⟩ := he
         obtain ⟨u, hu, hLu⟩ := hcell2 j (dB y) (by rw [dBl_map, fm1, List.getElem?_map, hy]; rfl)
         obtain ⟨Au, nu, cu, rfl, -⟩ := Lies.slc (show Lies wr S u (.s 7 (dIs y)) from hLu)
         have ha11 : a + 1 ≤ 10 := by
          have := HA.out
          rw [beq_eq_false_iff_ne] at g4
          omega
         have HC := Lib.hid (HV.out wr b (a + 1) lg y _ S (by have := HNB.out; omega) HB2.out hLu HS.out ha11 hf0 hf1)
         rw [show ((a + 1 : Nat) : Int) = (a : Int) + 1 by omega] at HC
         clear hy hcell2 hbl3 hje hny hLu ha11
         go_wp2_with fail
         refine HC.out.mono ?_
         rintro e w6 ⟨O6, (⟨hr, rfl⟩ | ⟨l1, hr, hl0, hl1, rfl, B6⟩)⟩
         ·have HF2 := Lib.hid (show R = none by rw [← HF.out, ← HE6.out, hr]; rfl)
          have O7 := Lib.hid (O0.out.trans (O4.out.trans (HO2.out.trans O6)))
          clear hr O6
          go_wp2_with fail
          go_ret
          exact ⟨O7.out, .inl ⟨HF2.out, rfl⟩⟩
         ·have HF2 := Lib.hid (show visB (a + 1) l1 (bl.drop (j + 1)) = RB by rw [← HE6.out, hr]; rfl)
          have O7 := Lib.hid (HO2.out.trans O6)
          have B7 := Lib.hid B6
          clear hr O6 B6
          go_wp2_with fail
          go_roundg (gk - 1)
          case rel => exact ⟨j + 1, l1, by simp, by omega, by omega, hl0, hl1, B7, O7, HF2⟩
          case measure => omega
theorem visOK : ∀ n, VisOK n
 | 0 => fun _ _ _ _ _ _ _ h => absurd h (Nat.not_lt_zero _)
 | n + 1 => visOK_succ (visOK n)
theorem validItems_any {w : World} {S : Nat → Prop} (b a : Nat) (left : Int) (its : List It) (v : Value) (hb : Bx w b 3 #[.int .i64 left]) (hL : Lies w S v (dB its)) (hS : ¬ S b) (ha : a ≤ 10) (h0 : 0 ≤ left) (h1 : left ≤ 1000) :
  Calls Tryz.prog 91 #[v, .int .i64 (a : Int), .pointer (some ⟨b, 0, none⟩)] w (VisPost w b (visI a left its)) :=
 visOK (nIs its + 1) w b a left its v S (Nat.lt_succ_self _) hb hL hS ha h0 h1
end
end Go.Proofs.YtekpefcggikcbaaGreatDoor
