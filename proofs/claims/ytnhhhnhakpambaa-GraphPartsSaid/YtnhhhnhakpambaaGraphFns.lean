/- The contracts of Dist, Components and Back, of valid graphs. -/
import Derived.Test.YtnhhhnhakpambaaGraphCompW
namespace Go.Proofs.Ytnhhhnhakpambaa
open Go.RowKit

def DistR (g : List (List Nat)) (S : List Nat) (w : World) (e : Ending) (w' : World) : Prop := ∃ D b, e = .returned (.tuple #[.slice (some ⟨b, 0, none⟩) g.length g.length, .int .i64 0]) ∧ IsDist g S D ∧ Row w' b 3 (D.map iv) ∧ Below w.heap.size w w'
theorem dist_ok (v vl : Value) (g : List (List Nat)) (S : List Nat) (w : World) (h : Gr nv w v g) (hg : VG g) (hS : Sl nv w vl S) (hl : S.length ≤ 10000) (hn : ∀ x ∈ S, x < g.length) :
    Calls Try.prog 23 #[v, vl] w (DistR g S w) := by
  obtain ⟨A, c, rfl⟩ := h.shape
  obtain ⟨A2, c2, rfl⟩ := hS.shape
  have H := Lib.hid h; have Hg := Lib.hid hg; have HS := Lib.hid hS; have Hn := Lib.hid hn
  have Hchk := Lib.hid (hg.chk S hn)
  clear h hg hS hn
  go_enter Try.func23, Try.ntmps23
  go_wp2_with fail
  refine (check_any _ _ _ (S.map fun n : Nat => (n : Int)) _ H.out.cst Hg.out.lim.cst HS.out.nv_iv (by rw [List.length_map]; exact hl)).mono ?_
  rintro e w0 ⟨rfl, hb0⟩
  rw [Hchk.out]
  have Hb0 := Lib.hid hb0
  have hb0s := hb0.size
  clear hb0
  go_wp2_with fail
  refine (distances_any _ _ g S _ (H.out.below Hb0.out) Hg.out (HS.out.below Hb0.out) hl Hn.out).mono ?_
  rintro e w1 ⟨D, b, rfl, hD, hb, hrow, hb1⟩
  have HD := Lib.hid hD; have Hrow := Lib.hid hrow; have Hb1 := Lib.hid (Hb0.out.trans (hb1.mono hb0s))
  clear hD hrow hb1
  go_wp2
  go_ret2
  exact ⟨D, b, rfl, HD.out, Hrow.out, Hb1.out⟩
/-- What Components returns. -/
def CompsR (g : List (List Nat)) (w : World) (e : Ending) (w' : World) : Prop := ∃ s M pv, LOut g g.length s ∧ s.stack = [] ∧ LInv g s ∧ leadM (revM g) s.left.reverse = M.map (fun n : Nat => (n : Int)) ∧ M.length = g.length ∧ (∀ x ∈ M, x < g.length) ∧ e = .returned (.tuple #[pv, .int .i64 0]) ∧ Gr nv w' pv (compsM g.length M) ∧ Below w.heap.size w w'
theorem comps_ok (v : Value) (g : List (List Nat)) (w : World) (h : Gr nv w v g) (hg : VG g) :
    Calls Try.prog 28 #[v] w (CompsR g w) := by
  obtain ⟨A, c, rfl⟩ := h.shape
  have H := Lib.hid h; have Hg := Lib.hid hg
  have hchk : chk (cst g) [] = 0 := hg.chk [] (by simp)
  have Hchk := Lib.hid hchk
  clear h hg hchk
  go_enter Try.func28, Try.ntmps28
  go_wp2_with fail
  refine (check_any _ _ _ [] _ H.out.cst Hg.out.lim.cst Sl.nil (by simp)).mono ?_
  rintro e w0 ⟨rfl, hb0⟩
  rw [Hchk.out]
  have Hb0 := Lib.hid hb0
  have hb0s := hb0.size
  clear hb0
  go_wp2_with fail
  refine (components_any _ g _ (H.out.below Hb0.out) Hg.out).mono ?_
  rintro e w1 ⟨s, M, pv, h1, h2, h3, h4, h5, h6, rfl, h7, hb1⟩
  have K := Lib.hid (And.intro h1 (And.intro h2 (And.intro h3 (And.intro h4 (And.intro h5 h6))))); have H7 := Lib.hid h7; have Hb1 := Lib.hid (Hb0.out.trans (hb1.mono hb0s))
  clear h1 h2 h3 h4 h5 h6 h7 hb1
  go_wp2
  go_ret2
  exact ⟨s, M, pv, K.out.1, K.out.2.1, K.out.2.2.1, K.out.2.2.2.1, K.out.2.2.2.2.1, K.out.2.2.2.2.2, rfl, H7.out, Hb1.out⟩
/-- A call that returns a graph and no error. -/
def GOk (w : World) (g : List (List Nat)) (e : Ending) (w' : World) : Prop := ∃ A c, e = .returned (.tuple #[.slice (some A) g.length c, .int .i64 0]) ∧ Gr nv w' (.slice (some A) g.length c) g ∧ Below w.heap.size w w'
theorem back_ok (v : Value) (g : List (List Nat)) (w : World) (h : Gr nv w v g) (hg : VG g) :
    Calls Try.prog 15 #[v] w (GOk w (revM g)) := by
  obtain ⟨A, c, rfl⟩ := h.shape
  have H := Lib.hid h; have Hg := Lib.hid hg
  have hchk : chk (cst g) [] = 0 := hg.chk [] (by simp)
  have Hchk := Lib.hid hchk
  clear h hg hchk
  go_enter Try.func15, Try.ntmps15
  go_wp2_with fail
  refine (check_any _ _ _ [] _ H.out.cst Hg.out.lim.cst Sl.nil (by simp)).mono ?_
  rintro e w0 ⟨rfl, hb0⟩
  rw [Hchk.out]
  have Hb0 := Lib.hid hb0
  have hb0s := hb0.size
  clear hb0
  go_wp2_with fail
  refine (reversed_any _ g _ (H.out.below Hb0.out) Hg.out).mono ?_
  rintro e w1 ⟨A1, c1, rfl, h1, hb1⟩
  have H1 := Lib.hid h1; have Hb1 := Lib.hid (Hb0.out.trans (hb1.mono hb0s))
  clear h1 hb1
  go_wp2
  go_ret2
  exact ⟨A1, c1, rfl, H1.out, Hb1.out⟩
-- the document's example
def g0 : List (List Nat) := [[1], [2], [1, 3], []]
def rchL (g : List (List Nat)) (S : List Nat) : Nat → List Nat
  | 0 => S
  | k + 1 => (rchL g S k).flatMap (row g)
theorem rch_iff (g : List (List Nat)) (S : List Nat) : ∀ (k v : Nat), RchN g S k v ↔ v ∈ rchL g S k
  | 0, _ => Iff.rfl
  | k + 1, v => by
    unfold RchN rchL
    rw [List.mem_flatMap]
    constructor
    · rintro ⟨u, h1, h2⟩; exact ⟨u, (rch_iff g S k u).1 h1, h2⟩
    · rintro ⟨u, h1, h2⟩; exact ⟨u, (rch_iff g S k u).2 h1, h2⟩
theorem g0_vg : VG g0 := by
  have hr : ∀ i, i < 4 ∨ row g0 i = [] := fun i => by
    rcases Nat.lt_or_ge i 4 with h | h
    · exact .inl h
    · exact .inr (row_big h)
  refine ⟨by decide, fun i x hx => ?_, fun i => ?_⟩
  · rcases hr i with h | h
    · have : ∀ i, i < 4 → ∀ x ∈ row g0 i, x < g0.length := by decide
      exact this i h x hx
    · rw [h] at hx; cases hx
  · rcases hr i with h | h
    · have : ∀ i, i < 4 → (row g0 i).Pairwise (· < ·) := by decide
      exact this i h
    · rw [h]; exact List.Pairwise.nil
theorem mn_g0 (v : Nat) (hv : v < 4) : Mn g0 [0] v v := by
  refine ⟨(rch_iff _ _ _ _).2 ?_, fun j hj => ?_⟩
  · have : ∀ v, v < 4 → v ∈ rchL g0 [0] v := by decide
    exact this v hv
  · rcases Nat.lt_or_ge j v with h | h
    · have : ∀ v, v < 4 → ∀ j, j < v → v ∉ rchL g0 [0] j := by decide
      exact absurd ((rch_iff _ _ _ _).1 hj) (this v hv j h)
    · exact h
theorem dist_g0 {D : List Int} (h : IsDist g0 [0] D) : D = [0, 1, 2, 3] := by
  refine h.ext ⟨rfl, fun v hv => .inr ⟨v, ?_, mn_g0 v hv⟩⟩
  have : ∀ v, v < 4 → dat [0, 1, 2, 3] v = v := by decide
  exact this v hv
theorem order_g0 : ordM g0 g0.length [] = none := by decide +kernel
theorem lead_g0 : leadM (revM g0) (lout g0 12 4).left.reverse = [0, 1, 1, 3].map (fun n : Nat => (n : Int)) := by decide +kernel
theorem stacks_g0 : ∀ j, j ≤ 4 → (lout g0 12 j).stack = [] := by decide +kernel
theorem compsM_g0 : compsM 4 [0, 1, 1, 3] = [[0], [1, 2], [3]] := by decide +kernel
theorem comps_g0 {s : LSt} {M : List Nat} (h1 : LOut g0 4 s) (h2 : leadM (revM g0) s.left.reverse = M.map (fun n : Nat => (n : Int))) : compsM 4 M = [[0], [1, 2], [3]] := by
  have e : s = lout g0 12 4 := LOut.eq h1 stacks_g0
  have h3 : M.map (fun n : Nat => (n : Int)) = [0, 1, 1, 3].map (fun n : Nat => (n : Int)) := by
    refine h2.symm.trans (Eq.trans ?_ lead_g0)
    exact congrArg (fun s : LSt => leadM (revM g0) s.left.reverse) e
  have h4 : M = [0, 1, 1, 3] := cast_inj.1 h3
  exact (congrArg (compsM 4) h4).trans compsM_g0
end Go.Proofs.Ytnhhhnhakpambaa
