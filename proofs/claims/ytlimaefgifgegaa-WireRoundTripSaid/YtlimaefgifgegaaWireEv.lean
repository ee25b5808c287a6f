/- The readers' contracts: event. -/
import Derived.Test.YtlimaefgifgegaaWireEls2
namespace Go.Proofs.Ytlimaefgifgegaa
open Go.RowKit

abbrev Ev := Int × Bool × Int × Int × List Vl
def pEvent (xs : List Nat) (k : Nat) : Option (Ev × Nat) :=
  match pInt xs k with
  | none => none
  | some (x0, k1) => match pBool xs k1 with
    | none => none
    | some (x1, k2) => match pInt xs k2 with
      | none => none
      | some (x2, k3) => match pInt xs k3 with
        | none => none
        | some (x3, k4) => (pLst 4 xs k4).map fun r => ((x0, x1, x2, x3, r.1), r.2)
/-- Five reads, whether one has failed or not. -/
theorem ev_logic {xs : List Nat} {k k1 k2 k3 k4 k5 : Nat} {f1 f2 f3 f4 f5 : Bool} {x0 : Int} {x1 : Bool} {x2 x3 : Int} {l : List Vl}
    (e0 : (x0, k1, f1) = out 0 false k (pInt xs k)) (e1 : (x1, k2, f2) = out false f1 k1 (pBool xs k1)) (e2 : (x2, k3, f3) = out 0 f2 k2 (pInt xs k2)) (e3 : (x3, k4, f4) = out 0 f3 k3 (pInt xs k3)) (e4 : (l, k5, f5) = out [] f4 k4 (pLst 4 xs k4)) :
    match pEvent xs k with | some (y, kk) => (x0, x1, x2, x3, l) = y ∧ k5 = kk ∧ f5 = false | none => f5 = true := by
  unfold pEvent
  cases h0 : pInt xs k with
  | none =>
    rw [h0, out_none rfl] at e0
    simp only [Prod.mk.injEq] at e0
    obtain ⟨_, _, rfl⟩ := e0
    simp only [out_true, Prod.mk.injEq] at e1
    obtain ⟨_, _, rfl⟩ := e1
    simp only [out_true, Prod.mk.injEq] at e2
    obtain ⟨_, _, rfl⟩ := e2
    simp only [out_true, Prod.mk.injEq] at e3
    obtain ⟨_, _, rfl⟩ := e3
    simp only [out_true, Prod.mk.injEq] at e4
    exact e4.2.2
  | some p0 =>
    obtain ⟨y0, j1⟩ := p0
    rw [h0, out_some rfl] at e0
    simp only [Prod.mk.injEq] at e0
    obtain ⟨rfl, rfl, rfl⟩ := e0
    simp only
    cases h1 : pBool xs k1 with
    | none =>
      rw [h1, out_none rfl] at e1
      simp only [Prod.mk.injEq] at e1
      obtain ⟨_, _, rfl⟩ := e1
      simp only [out_true, Prod.mk.injEq] at e2
      obtain ⟨_, _, rfl⟩ := e2
      simp only [out_true, Prod.mk.injEq] at e3
      obtain ⟨_, _, rfl⟩ := e3
      simp only [out_true, Prod.mk.injEq] at e4
      exact e4.2.2
    | some p1 =>
      obtain ⟨y1, j2⟩ := p1
      rw [h1, out_some rfl] at e1
      simp only [Prod.mk.injEq] at e1
      obtain ⟨rfl, rfl, rfl⟩ := e1
      simp only
      cases h2 : pInt xs k2 with
      | none =>
        rw [h2, out_none rfl] at e2
        simp only [Prod.mk.injEq] at e2
        obtain ⟨_, _, rfl⟩ := e2
        simp only [out_true, Prod.mk.injEq] at e3
        obtain ⟨_, _, rfl⟩ := e3
        simp only [out_true, Prod.mk.injEq] at e4
        exact e4.2.2
      | some p2 =>
        obtain ⟨y2, j3⟩ := p2
        rw [h2, out_some rfl] at e2
        simp only [Prod.mk.injEq] at e2
        obtain ⟨rfl, rfl, rfl⟩ := e2
        simp only
        cases h3 : pInt xs k3 with
        | none =>
          rw [h3, out_none rfl] at e3
          simp only [Prod.mk.injEq] at e3
          obtain ⟨_, _, rfl⟩ := e3
          simp only [out_true, Prod.mk.injEq] at e4
          exact e4.2.2
        | some p3 =>
          obtain ⟨y3, j4⟩ := p3
          rw [h3, out_some rfl] at e3
          simp only [Prod.mk.injEq] at e3
          obtain ⟨rfl, rfl, rfl⟩ := e3
          simp only
          cases h4 : pLst 4 xs k4 with
          | none =>
            rw [h4, out_none rfl] at e4
            simp only [Prod.mk.injEq] at e4
            exact e4.2.2
          | some p4 =>
            obtain ⟨y4, j5⟩ := p4
            rw [h4, out_some rfl] at e4
            simp only [Prod.mk.injEq] at e4
            obtain ⟨rfl, rfl, rfl⟩ := e4
            exact ⟨rfl, rfl, rfl⟩
def RawEv (w : World) (g : Nat) (A : Option Addr) (n c : Nat) (xs : List Nat) (o : Option (Ev × Nat)) (e : Ending) (w' : World) : Prop :=
  ∃ (x0 : Int) (x1 : Bool) (x2 x3 : Int) (v : Value) (l : List Vl) (k' : Nat) (fl : Bool), e = .returned (.agg #[.int .i64 x0, .bool x1, .int .i64 x2, .int .i64 x3, v]) ∧ VRow w.heap.size w' v l ∧ Rdr w' g A n c xs k' fl ∧ Only g w w' ∧
    (match o with | some (y, kk) => (x0, x1, x2, x3, l) = y ∧ k' = kk ∧ fl = false | none => fl = true)
theorem heap_set5 {w : World} {g t : Nat} {z0 z1 z2 z3 z4 : Value} (h : w.heap[g]? = some (.cells #[z0, z1, z2, z3, z4] t (0, 0))) (b0 b1 b2 b3 b4 : Value) :
    (((((w.setCell ⟨g, 0, none⟩ b0).setCell ⟨g, 1, none⟩ b1).setCell ⟨g, 2, none⟩ b2).setCell ⟨g, 3, none⟩ b3).setCell ⟨g, 4, none⟩ b4).heap[g]? = some (.cells #[b0, b1, b2, b3, b4] t (0, 0)) := by
  have := heap_set (i := 4) (v := b4) (heap_set (i := 3) (v := b3) (heap_set (i := 2) (v := b2) (heap_set (i := 1) (v := b1) (heap_set (i := 0) (v := b0) h))))
  simpa using this
theorem VRow.set {B : Nat} {w : World} {v : Value} {l : List Vl} (h : VRow B w v l) (p : Addr) (u : Value) (hp : p.block < B) : VRow B (w.setCell p u) v l := by
  refine World.ownsRow.kept (row := some p.block) h ⟨rfl, rfl, rfl, by simp [World.setCell], fun k _ hn => Below.heap_setCell _ _ _ _ (fun e => hn (by rw [e]))⟩ ?_
  rcases h.2 with ⟨rfl, _⟩ | ⟨g', cap, cur, rfl, hb, _⟩
  · exact .inl rfl
  · right
    intro e
    simp only [Value.ownBlock, Option.some.injEq] at e
    omega
theorem VRow.shape {B : Nat} {w : World} {v : Value} {l : List Vl} (h : VRow B w v l) : ∃ A c, v = .slice A l.length c := by
  rcases h.2 with ⟨rfl, h0⟩ | ⟨g, cap, cur, rfl, _⟩
  · exact ⟨none, 0, by rw [h0]⟩
  · exact ⟨_, _, rfl⟩
section
variable {w : World} {g n c k : Nat} {A : Option Addr} {xs : List Nat} {fl : Bool}
set_option maxHeartbeats 4000000 in
theorem event_raw (h : Rdr w g A n c xs k false) :
    Calls Try.prog 44 #[.pointer (some ⟨g, 0, none⟩)] w (RawEv w g A n c xs (pEvent xs k)) := by
  have hg := h.lt
  have Hold := Lib.hid h.old
  have hbel : Below w.heap.size w ((w.alloc (.cells #[.int .i64 0, .bool false, .int .i64 0, .int .i64 0, .slice none 0 0] 45)).alloc (.cells #[.int .i64 0, .bool false, .int .i64 0, .int .i64 0, .slice none 0 0] 45)) := ((Below.refl _ w).alloc (Nat.le_refl _) _).alloc (by simp) _
  have H0 := Lib.hid (h.below hbel)
  have O0 := Lib.hid ((Only.refl g w).below hbel)
  have R0 := Lib.hid (heap_alloc_2 w (.cells #[.int .i64 0, .bool false, .int .i64 0, .int .i64 0, .slice none 0 0] 45) (.cells #[.int .i64 0, .bool false, .int .i64 0, .int .i64 0, .slice none 0 0] 45))
  have S0 := Lib.hid (heap_alloc_2' w (.cells #[.int .i64 0, .bool false, .int .i64 0, .int .i64 0, .slice none 0 0] 45) (.cells #[.int .i64 0, .bool false, .int .i64 0, .int .i64 0, .slice none 0 0] 45))
  have hne0 : w.heap.size ≠ g := by omega
  have hne1 : w.heap.size + 1 ≠ g := by omega
  clear h hbel
  go_enter Try.func44, Try.ntmps44
  have hv := int_any H0.out
  obtain ⟨⟨x0, k1, f1⟩, hr⟩ : ∃ r, r = out 0 false k (pInt xs k) := ⟨_, rfl⟩
  rw [← hr] at hv
  have E0 := Lib.hid hr
  clear hr
  replace hv : Calls Try.prog 29 #[.pointer (some ⟨g, 0, none⟩)] _ (RPost _ g A n c xs (.int .i64 x0, k1, f1)) := hv
  go_wp2_with fail
  refine hv.mono ?_
  rintro e w1 ⟨rfl, hR, ho⟩
  replace hR : Rdr w1 g A n c xs k1 f1 := hR
  have hr0 := (ho.block w.heap.size (lt_of_some R0.out) hne0).trans R0.out
  have hr1 := (ho.block (w.heap.size + 1) (lt_of_some S0.out) hne1).trans S0.out
  have ho2 := O0.out.trans ho
  have H1 := Lib.hid (hR.setNew hg Hold.out (p := ⟨w.heap.size + 1, 0, none⟩) (by show w.heap.size ≤ w.heap.size + 1; omega) (.int .i64 x0))
  have O1 := Lib.hid (ho2.setNew (p := ⟨w.heap.size + 1, 0, none⟩) (by show w.heap.size ≤ w.heap.size + 1; omega) (.int .i64 x0))
  have R1 := Lib.hid ((Below.heap_setCell w1 ⟨w.heap.size + 1, 0, none⟩ (.int .i64 x0) w.heap.size (by show w.heap.size ≠ w.heap.size + 1; omega)).trans hr0)
  have S1 : Hid ((w1.setCell ⟨w.heap.size + 1, 0, none⟩ (.int .i64 x0)).heap[w.heap.size + 1]? = some (.cells #[.int .i64 x0, .bool false, .int .i64 0, .int .i64 0, .slice none 0 0] 45 (0, 0))) := by
    have := heap_set (i := 0) (v := .int .i64 x0) hr1
    exact (by simpa using this : _ = _)
  have c1 := cell_of_row w1 (w.heap.size + 1) 0 _ _ _ hr1
  have fr1 : ∀ i, w1.frozen? ⟨w.heap.size + 1, i, none⟩ = false := fun i => frozen_of_row w1 _ i _ _ hr1
  clear hr0 hr1 ho ho2 hR hv
  have hv := rbool_any H1.out
  obtain ⟨⟨x1, k2, f2⟩, hr⟩ : ∃ r, r = out false f1 k1 (pBool xs k1) := ⟨_, rfl⟩
  rw [← hr] at hv
  have E1 := Lib.hid hr
  clear hr
  replace hv : Calls Try.prog 18 #[.pointer (some ⟨g, 0, none⟩)] _ (RPost _ g A n c xs (.bool x1, k2, f2)) := hv
  go_wp2_with fail
  refine hv.mono ?_
  rintro e w2 ⟨rfl, hR, ho⟩
  replace hR : Rdr w2 g A n c xs k2 f2 := hR
  have hr0 := (ho.block w.heap.size (lt_of_some R1.out) hne0).trans R1.out
  have hr1 := (ho.block (w.heap.size + 1) (lt_of_some S1.out) hne1).trans S1.out
  have ho2 := O1.out.trans ho
  have H2 := Lib.hid (hR.setNew hg Hold.out (p := ⟨w.heap.size + 1, 1, none⟩) (by show w.heap.size ≤ w.heap.size + 1; omega) (.bool x1))
  have O2 := Lib.hid (ho2.setNew (p := ⟨w.heap.size + 1, 1, none⟩) (by show w.heap.size ≤ w.heap.size + 1; omega) (.bool x1))
  have R2 := Lib.hid ((Below.heap_setCell w2 ⟨w.heap.size + 1, 1, none⟩ (.bool x1) w.heap.size (by show w.heap.size ≠ w.heap.size + 1; omega)).trans hr0)
  have S2 : Hid ((w2.setCell ⟨w.heap.size + 1, 1, none⟩ (.bool x1)).heap[w.heap.size + 1]? = some (.cells #[.int .i64 x0, .bool x1, .int .i64 0, .int .i64 0, .slice none 0 0] 45 (0, 0))) := by
    have := heap_set (i := 1) (v := .bool x1) hr1
    exact (by simpa using this : _ = _)
  have c1 := cell_of_row w2 (w.heap.size + 1) 1 _ _ _ hr1
  have fr1 : ∀ i, w2.frozen? ⟨w.heap.size + 1, i, none⟩ = false := fun i => frozen_of_row w2 _ i _ _ hr1
  clear hr0 hr1 ho ho2 hR hv
  have hv := int_any H2.out
  obtain ⟨⟨x2, k3, f3⟩, hr⟩ : ∃ r, r = out 0 f2 k2 (pInt xs k2) := ⟨_, rfl⟩
  rw [← hr] at hv
  have E2 := Lib.hid hr
  clear hr
  replace hv : Calls Try.prog 29 #[.pointer (some ⟨g, 0, none⟩)] _ (RPost _ g A n c xs (.int .i64 x2, k3, f3)) := hv
  go_wp2_with fail
  refine hv.mono ?_
  rintro e w3 ⟨rfl, hR, ho⟩
  replace hR : Rdr w3 g A n c xs k3 f3 := hR
  have hr0 := (ho.block w.heap.size (lt_of_some R2.out) hne0).trans R2.out
  have hr1 := (ho.block (w.heap.size + 1) (lt_of_some S2.out) hne1).trans S2.out
  have ho2 := O2.out.trans ho
  have H3 := Lib.hid (hR.setNew hg Hold.out (p := ⟨w.heap.size + 1, 2, none⟩) (by show w.heap.size ≤ w.heap.size + 1; omega) (.int .i64 x2))
  have O3 := Lib.hid (ho2.setNew (p := ⟨w.heap.size + 1, 2, none⟩) (by show w.heap.size ≤ w.heap.size + 1; omega) (.int .i64 x2))
  have R3 := Lib.hid ((Below.heap_setCell w3 ⟨w.heap.size + 1, 2, none⟩ (.int .i64 x2) w.heap.size (by show w.heap.size ≠ w.heap.size + 1; omega)).trans hr0)
  have S3 : Hid ((w3.setCell ⟨w.heap.size + 1, 2, none⟩ (.int .i64 x2)).heap[w.heap.size + 1]? = some (.cells #[.int .i64 x0, .bool x1, .int .i64 x2, .int .i64 0, .slice none 0 0] 45 (0, 0))) := by
    have := heap_set (i := 2) (v := .int .i64 x2) hr1
    exact (by simpa using this : _ = _)
  have c1 := cell_of_row w3 (w.heap.size + 1) 2 _ _ _ hr1
  have fr1 : ∀ i, w3.frozen? ⟨w.heap.size + 1, i, none⟩ = false := fun i => frozen_of_row w3 _ i _ _ hr1
  clear hr0 hr1 ho ho2 hR hv
  have hv := int_any H3.out
  obtain ⟨⟨x3, k4, f4⟩, hr⟩ : ∃ r, r = out 0 f3 k3 (pInt xs k3) := ⟨_, rfl⟩
  rw [← hr] at hv
  have E3 := Lib.hid hr
  clear hr
  replace hv : Calls Try.prog 29 #[.pointer (some ⟨g, 0, none⟩)] _ (RPost _ g A n c xs (.int .i64 x3, k4, f4)) := hv
  go_wp2_with fail
  refine hv.mono ?_
  rintro e w4 ⟨rfl, hR, ho⟩
  replace hR : Rdr w4 g A n c xs k4 f4 := hR
  have hr0 := (ho.block w.heap.size (lt_of_some R3.out) hne0).trans R3.out
  have hr1 := (ho.block (w.heap.size + 1) (lt_of_some S3.out) hne1).trans S3.out
  have ho2 := O3.out.trans ho
  have H4 := Lib.hid (hR.setNew hg Hold.out (p := ⟨w.heap.size + 1, 3, none⟩) (by show w.heap.size ≤ w.heap.size + 1; omega) (.int .i64 x3))
  have O4 := Lib.hid (ho2.setNew (p := ⟨w.heap.size + 1, 3, none⟩) (by show w.heap.size ≤ w.heap.size + 1; omega) (.int .i64 x3))
  have R4 := Lib.hid ((Below.heap_setCell w4 ⟨w.heap.size + 1, 3, none⟩ (.int .i64 x3) w.heap.size (by show w.heap.size ≠ w.heap.size + 1; omega)).trans hr0)
  have S4 : Hid ((w4.setCell ⟨w.heap.size + 1, 3, none⟩ (.int .i64 x3)).heap[w.heap.size + 1]? = some (.cells #[.int .i64 x0, .bool x1, .int .i64 x2, .int .i64 x3, .slice none 0 0] 45 (0, 0))) := by
    have := heap_set (i := 3) (v := .int .i64 x3) hr1
    exact (by simpa using this : _ = _)
  have c1 := cell_of_row w4 (w.heap.size + 1) 3 _ _ _ hr1
  have fr1 : ∀ i, w4.frozen? ⟨w.heap.size + 1, i, none⟩ = false := fun i => frozen_of_row w4 _ i _ _ hr1
  clear hr0 hr1 ho ho2 hR hv
  have hv := values_any 4 H4.out (by decide)
  obtain ⟨⟨l, k5, f5⟩, hr⟩ : ∃ r, r = out [] f4 k4 (pLst 4 xs k4) := ⟨_, rfl⟩
  rw [← hr] at hv
  have E4 := Lib.hid hr
  clear hr
  go_wp2_with fail
  refine hv.mono ?_
  rintro e w5 ⟨v, rfl, hV, hR, ho⟩
  have HV := Lib.hid hV
  obtain ⟨Av, cv, rfl⟩ := hV.shape
  clear hV
  replace hR : Rdr w5 g A n c xs k5 f5 := hR
  have hr0 := (ho.block w.heap.size (lt_of_some R4.out) hne0).trans R4.out
  have hr1 := (ho.block (w.heap.size + 1) (lt_of_some S4.out) hne1).trans S4.out
  have ho2 := O4.out.trans ho
  have hlt1 := lt_of_some S4.out
  have H5 := Lib.hid (hR.setNew hg Hold.out (p := ⟨w.heap.size + 1, 4, none⟩) (by show w.heap.size ≤ w.heap.size + 1; omega) (.slice Av l.length cv))
  have O5 := Lib.hid (ho2.setNew (p := ⟨w.heap.size + 1, 4, none⟩) (by show w.heap.size ≤ w.heap.size + 1; omega) (.slice Av l.length cv))
  have R5 := Lib.hid ((Below.heap_setCell w5 ⟨w.heap.size + 1, 4, none⟩ (.slice Av l.length cv) w.heap.size (by show w.heap.size ≠ w.heap.size + 1; omega)).trans hr0)
  have S5 : Hid ((w5.setCell ⟨w.heap.size + 1, 4, none⟩ (.slice Av l.length cv)).heap[w.heap.size + 1]? = some (.cells #[.int .i64 x0, .bool x1, .int .i64 x2, .int .i64 x3, .slice Av l.length cv] 45 (0, 0))) := by
    have := heap_set (i := 4) (v := .slice Av l.length cv) hr1
    exact (by simpa using this : _ = _)
  have d0 := cell_of_row w5 (w.heap.size + 1) 0 _ _ _ hr1
  have d1 := cell_of_row w5 (w.heap.size + 1) 1 _ _ _ hr1
  have d2 := cell_of_row w5 (w.heap.size + 1) 2 _ _ _ hr1
  have d3 := cell_of_row w5 (w.heap.size + 1) 3 _ _ _ hr1
  have d4 := cell_of_row w5 (w.heap.size + 1) 4 _ _ _ hr1
  have q0 := cell_of_row w5 w.heap.size 0 _ _ _ hr0
  have q1 := cell_of_row w5 w.heap.size 1 _ _ _ hr0
  have q2 := cell_of_row w5 w.heap.size 2 _ _ _ hr0
  have q3 := cell_of_row w5 w.heap.size 3 _ _ _ hr0
  have q4 := cell_of_row w5 w.heap.size 4 _ _ _ hr0
  have fr0 : ∀ i, w5.frozen? ⟨w.heap.size, i, none⟩ = false := fun i => frozen_of_row w5 _ i _ _ hr0
  have fr1 : ∀ i, w5.frozen? ⟨w.heap.size + 1, i, none⟩ = false := fun i => frozen_of_row w5 _ i _ _ hr1
  clear hr0 hr1 ho ho2 hR hv
  have hW4 := O4.out.size
  go_wp2
  refine bodyPost_ret (v := .agg #[.int .i64 x0, .bool x1, .int .i64 x2, .int .i64 x3, .slice Av l.length cv]) (results_cell_row Try.results44 _ _ w.heap.size 45 _ (0, 0) _ rfl (heap_set5 R5.out _ _ _ _ _) Try.underlying45 rfl (by kernel_rfl)) rfl ?_
  exact ⟨x0, x1, x2, x3, .slice Av l.length cv, l, k5, f5, rfl, ((((((HV.out.set ⟨w.heap.size + 1, 4, none⟩ (.slice Av l.length cv) hlt1).set ⟨w.heap.size, 0, none⟩ (.int .i64 x0) (by show w.heap.size < _; omega)).set ⟨w.heap.size, 1, none⟩ (.bool x1) (by show w.heap.size < _; omega)).set ⟨w.heap.size, 2, none⟩ (.int .i64 x2) (by show w.heap.size < _; omega)).set ⟨w.heap.size, 3, none⟩ (.int .i64 x3) (by show w.heap.size < _; omega)).set ⟨w.heap.size, 4, none⟩ (.slice Av l.length cv) (by show w.heap.size < _; omega)).mono hW4, (((((H5.out.setNew hg Hold.out (p := ⟨w.heap.size, 0, none⟩) (Nat.le_refl _) (.int .i64 x0)).setNew hg Hold.out (p := ⟨w.heap.size, 1, none⟩) (Nat.le_refl _) (.bool x1)).setNew hg Hold.out (p := ⟨w.heap.size, 2, none⟩) (Nat.le_refl _) (.int .i64 x2)).setNew hg Hold.out (p := ⟨w.heap.size, 3, none⟩) (Nat.le_refl _) (.int .i64 x3)).setNew hg Hold.out (p := ⟨w.heap.size, 4, none⟩) (Nat.le_refl _) (.slice Av l.length cv)), (((((O5.out.setNew (p := ⟨w.heap.size, 0, none⟩) (Nat.le_refl _) (.int .i64 x0)).setNew (p := ⟨w.heap.size, 1, none⟩) (Nat.le_refl _) (.bool x1)).setNew (p := ⟨w.heap.size, 2, none⟩) (Nat.le_refl _) (.int .i64 x2)).setNew (p := ⟨w.heap.size, 3, none⟩) (Nat.le_refl _) (.int .i64 x3)).setNew (p := ⟨w.heap.size, 4, none⟩) (Nat.le_refl _) (.slice Av l.length cv)), ev_logic E0.out E1.out E2.out E3.out E4.out⟩
end
end Go.Proofs.Ytlimaefgifgegaa
