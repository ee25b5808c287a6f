/- What nfa's laws are handed, opened: an automaton of the reference; the table of math/bits, as the row's condition says it. -/
import Derived.Test.YtockgbilbnheaaaDoorMOpen
import Derived.Test.YtockgbilbnheaaaDoorNfaBsf
import Derived.Test.YtockgbilbnheaaaDoorBitsEls
import Derived.Test.YtockgbilbnheaaaDoorNfaFin
import Derived.Test.YtockgbilbnheaaaDoorCards
import Derived.Test.YtockgbilbnheaaaDoorTie
import Derived.Lib.LaidTab
import Derived.LaidMore
import Derived.Stop.Joined
import Derived.SevenTiedAt
import Derived.ProofKit
import Derived.Deep.Slices
import Derived.Deep.Strs
namespace Go.Proofs.YtockgbilbnheaaaDoor
open Go.ChangeShapes Go.WideShapes Go.ChangeAt Go.RowKit Go.Joins

section
variable {H : Type} {enc : TypeId × Value → H} {P : Program} {W : World}
theorem sl_range {α : Type} {f : α → Value} {a : Addr} {len cap : Nat} (hl : len ≤ cap) (V : Nat → α) (h : ∀ i, i < len → W.cell? (a.add i) = some (f (V i))) : Sl f W (.slice (some a) ((List.range len).map V).length cap) ((List.range len).map V) := by
 have hn : ((List.range len).map V).length = len := by simp
 refine .inr ⟨a, cap, rfl, by omega, fun j b hj => ?_⟩
 rw [List.getElem?_map] at hj
 cases hr : (List.range len)[j]? with
 | none => rw [hr] at hj; cases hj
 | some i =>
  rw [hr] at hj
  cases hj
  have hlt : j < len := by have := (List.getElem?_eq_some_iff.1 hr).1; simpa using this
  rw [List.getElem?_range hlt] at hr
  cases hr
  exact h j hlt
theorem open_intsN {t e : TypeId} (ht : P.underlying t = some (.slice e)) (he : P.underlying e = some (.int .i64)) (hc : P.cellsOf e = 1) {n : Nat} {v : Value} {y : DataW H × List MemPlace} (h : DataW.trod enc P W 0 (fun _ => true) true n t [v] = some y) :
  ∃ A c l, v = .slice A (l : List Int).length c ∧ Sl iv W (.slice A l.length c) l := by
 rcases Deep.open_slice1 ht hc h with ⟨hcs, _⟩ | ⟨a, len, cap, m, n', V, D, Pl, hcs, _, hl, hm, hmm, _, hx⟩
 ·simp only [List.cons.injEq, and_true] at hcs
  subst hcs
  exact ⟨none, 0, [], rfl, .inl ⟨rfl, rfl⟩⟩
 ·simp only [List.cons.injEq, and_true] at hcs
  subst hcs
  simp only [if_true] at hmm
  have each : ∀ i, i < len → ∃ z : Int, W.cell? (a.add i) = some (iv z) := fun i hi => by
   obtain ⟨h1, h2⟩ := hx i (by omega)
   obtain ⟨z, e0, _, _⟩ := DataW.trod_int he h2
   simp only [List.cons.injEq, and_true] at e0
   exact ⟨z, by rw [h1, e0]; rfl⟩
  obtain ⟨V', hV⟩ := Deep.choose_lt each
  exact ⟨some a, cap, (List.range len).map V', by simp, sl_range hl V' hV⟩
theorem open_boolsN {t e : TypeId} (ht : P.underlying t = some (.slice e)) (he : P.underlying e = some .bool) (hc : P.cellsOf e = 1) {n : Nat} {v : Value} {y : DataW H × List MemPlace} (h : DataW.trod enc P W 0 (fun _ => true) true n t [v] = some y) :
  ∃ A c l, v = .slice A (l : List Bool).length c ∧ Sl bl W (.slice A l.length c) l := by
 rcases Deep.open_slice1 ht hc h with ⟨hcs, _⟩ | ⟨a, len, cap, m, n', V, D, Pl, hcs, _, hl, hm, hmm, _, hx⟩
 ·simp only [List.cons.injEq, and_true] at hcs
  subst hcs
  exact ⟨none, 0, [], rfl, .inl ⟨rfl, rfl⟩⟩
 ·simp only [List.cons.injEq, and_true] at hcs
  subst hcs
  simp only [if_true] at hmm
  have each : ∀ i, i < len → ∃ z : Bool, W.cell? (a.add i) = some (bl z) := fun i hi => by
   obtain ⟨h1, h2⟩ := hx i (by omega)
   obtain ⟨z, e0, _⟩ := DataW.trod_bool he h2
   simp only [List.cons.injEq, and_true] at e0
   exact ⟨z, by rw [h1, e0]; rfl⟩
  obtain ⟨V', hV⟩ := Deep.choose_lt each
  exact ⟨some a, cap, (List.range len).map V', by simp, sl_range hl V' hV⟩
theorem open_arcsN {t e tI : TypeId} {f0 f1 f2 : Field} (ht : P.underlying t = some (.slice e)) (he : P.underlying e = some (.struct #[f0, f1, f2])) (hce : P.cellsOf e = 3)
  (o0 : f0.offset = 0) (o1 : f1.offset = 1) (o2 : f2.offset = 2) (t0 : f0.type = tI) (t1 : f1.type = tI) (t2 : f2.type = tI) (u0 : P.underlying tI = some (.int .i64)) (k0 : P.cellsOf tI = 1) {n : Nat} {v : Value} {y : DataW H × List MemPlace} (h : DataW.trod enc P W 0 (fun _ => true) true n t [v] = some y) :
  ∃ A c l, v = .slice A (l : List Ac).length c ∧ Acs W (.slice A l.length c) l := by
 rcases Deep.open_slice ht h with ⟨hcs, _⟩ | ⟨a, len, cap, m, n', D, Pl, hcs, _, hl, hm, hmm, _, hx⟩
 ·simp only [List.cons.injEq, and_true] at hcs
  subst hcs
  exact ⟨none, 0, [], rfl, .inl ⟨rfl, rfl⟩⟩
 ·simp only [List.cons.injEq, and_true] at hcs
  subst hcs
  simp only [if_true] at hmm
  rw [hce] at hx
  have each : ∀ i, i < len → ∃ x : Ac, Ak W (a.add (i * 3)) x := by
   intro i hi
   obtain ⟨cs', h1, h2⟩ := hx i (by omega)
   obtain ⟨_, hlen, hcell⟩ := World.cells?_some h1
   obtain ⟨y0, y1, y2, q, _, _, g0, g1, g2⟩ := Deep.trod_struct3 he h2
   match cs', hlen with
   | [c0, c1, c2], _ =>
    rw [o0, t0, k0] at g0
    rw [o1, t1, k0] at g1
    rw [o2, t2, k0] at g2
    obtain ⟨z0, e0, _, w0⟩ := DataW.trod_int u0 g0
    obtain ⟨z1, e1, _, w1⟩ := DataW.trod_int u0 g1
    obtain ⟨z2, e2, _, w2⟩ := DataW.trod_int u0 g2
    simp at e0 e1 e2
    subst e0 e1 e2
    have d0 := hcell 0 (by omega)
    have d1 := hcell 1 (by omega)
    have d2 := hcell 2 (by omega)
    refine ⟨(z0, z1, z2), ?_, ?_, ?_⟩
    ·simpa [Addr.add] using d0
    ·simpa [Addr.add] using d1
    ·simpa [Addr.add] using d2
  obtain ⟨V, hV⟩ := Deep.choose_lt each
  have hn : ((List.range len).map V).length = len := by simp
  refine ⟨some a, cap, (List.range len).map V, by rw [hn], ?_⟩
  rw [hn]
  refine .inr ⟨a, cap, by rw [hn], by rw [hn]; exact hl, fun j x hj => ?_⟩
  rw [List.getElem?_map] at hj
  cases hr : (List.range len)[j]? with
  | none => rw [hr] at hj; cases hj
  | some i =>
   rw [hr] at hj
   cases hj
   have hlt : j < len := by have := (List.getElem?_eq_some_iff.1 hr).1; simpa using this
   rw [List.getElem?_range hlt] at hr
   cases hr
   exact hV j hlt
end
set_option maxRecDepth 100000 in
theorem open_nfa {H : Type} {enc : TypeId × Value → H} {W : World} {r : Reach} {b0 : Nat} {v : Value} {d : DataW H} {p : List MemPlace} (hv : Value.okWide Tryd.prog W r b0 26 v) (h : DataW.Trod enc Tryd.prog W 0 (fun _ => true) true 26 v d p) :
  ∃ (S : Int) (A1 A2 A3 : Option Addr) (c1 c2 c3 : Nat) (st : List Int) (fin : List Bool) (ar : List Ac), v = .agg #[.int .i64 S, .slice A1 st.length c1, .slice A2 fin.length c2, .slice A3 ar.length c3] ∧ Sl iv W (.slice A1 st.length c1) st ∧ Sl bl W (.slice A2 fin.length c2) fin ∧ Acs W (.slice A3 ar.length c3) ar := by
 obtain ⟨v0, v1, v2, v3, y0, y1, y2, y3, n, rfl, _, _, g0, g1, g2, g3⟩ := open_agg4 Tryd.underlying26 (by kernel_rfl) (by kernel_rfl) hv h
 obtain ⟨S, e0, _, _⟩ := DataW.trod_int Tryd.underlying3 g0
 simp only [List.cons.injEq, and_true] at e0
 subst e0
 obtain ⟨A1, c1, st, rfl, hs⟩ := open_intsN Tryd.underlying22 Tryd.underlying3 (by kernel_rfl) g1
 obtain ⟨A2, c2, fin, rfl, hf⟩ := open_boolsN Tryd.underlying23 Tryd.underlying4 (by kernel_rfl) g2
 obtain ⟨A3, c3, ar, rfl, ha⟩ := open_arcsN (tI := 3) Tryd.underlying24 Tryd.underlying59 (by kernel_rfl) rfl rfl rfl rfl rfl rfl Tryd.underlying3 (by kernel_rfl) g3
 exact ⟨S, A1, A2, A3, c1, c2, c3, st, fin, ar, rfl, hs, hf, ha⟩
theorem gTab : Tryd.prog.globalNamed "math/bits.deBruijn64tab" = some 0 := by kernel_rfl
theorem gTabType : (Tryd.prog.globals[0]?).map (·.type) = some 99 := by kernel_rfl
def tabZ : List Int := Lib.deBruijn64tab.map fun n : Nat => (n : Int)
set_option maxRecDepth 100000 in
theorem tab_of_laid {W : World} (h : laidMetH Tryd.prog [("math/bits.deBruijn64tab", Rows.laid_math_bits_deBruijn64tab)] W) : Tab W := by
 rw [MakeChecks.laidMetH_plain _ _ _ (by kernel_rfl)] at h
 have h' : laidMet Tryd.prog [("math/bits.deBruijn64tab", Lib.tabData .u8 tabZ)] W := h
 have hT := Lib.tabIs_of_head gTab gTabType (n := 64) (e := 5) (by kernel_rfl) (by kernel_rfl) (by kernel_rfl) (by kernel_rfl) h'
 intro j hj
 rw [hT.cell gTab j (by simpa [tabZ, Lib.deBruijn64tab] using hj)]
 congr 2
 simp only [tabZ, List.getD, List.getElem?_map]
 cases Lib.deBruijn64tab[j]? <;> rfl
theorem door_met (os : Os) (args : Array Value) : laidMetH Tryd.prog [("math/bits.deBruijn64tab", Rows.laid_math_bits_deBruijn64tab)] ((World.doorLaid Tryd.prog 2000 os).forCall (fun _ _ => 0) ⟨#[], args, []⟩).memory :=
 laidMetH_of_parts3 (fuel := 8) (laidMet_of_run' 8 (by kernel_rfl) (by kernel_rfl)) (by kernel_rfl) (by kernel_rfl)
end Go.Proofs.YtockgbilbnheaaaDoor
