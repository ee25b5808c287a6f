/- The errors of Reach, Dist, Path and Back, of the program and of the reference. -/
import Derived.Test.YtnhhhnhakpambaaRefBack
namespace Go.Proofs.Ytnhhhnhakpambaa
open Go.RowKit

def ErrR (c : Int) (w : World) (e : Ending) (w' : World) : Prop := e = .returned (.tuple #[.slice none 0 0, .int .i64 c]) ∧ Below w.heap.size w w'
theorem sl_un {w : World} {v : Value} {S : List Nat} (h : Sl iv w v (S.map fun n : Nat => (n : Int))) : Sl nv w v S := by
  rcases h with ⟨rfl, h⟩ | ⟨ad, c, rfl, hc, hcell⟩
  · exact .inl ⟨rfl, by simpa using h⟩
  · refine .inr ⟨ad, c, by rw [List.length_map], by simpa using hc, fun j b hb => ?_⟩
    exact hcell j b (by rw [List.getElem?_map, hb]; rfl)
theorem nodes_nat {n : Nat} {l : List Int} (h : NodesI n l) : ∃ S : List Nat, l = S.map (fun n : Nat => (n : Int)) ∧ ∀ x ∈ S, x < n := by
  refine ⟨l.map Int.toNat, ?_, ?_⟩
  · rw [List.map_map]
    refine (List.map_id _).symm.trans (List.map_congr_left fun x hx => ?_)
    have := (h x hx).1
    simp; omega
  · intro x hx
    obtain ⟨y, hy, rfl⟩ := List.mem_map.1 hx
    have := h y hy
    omega
theorem chk_zero {g : List (List Int)} {l : List Int} (h : chk g l = 0) : ∃ (gn : List (List Nat)) (S : List Nat), g = cst gn ∧ VG gn ∧ l = S.map (fun n : Nat => (n : Int)) ∧ ∀ x ∈ S, x < gn.length := by
  unfold chk at h
  by_cases hv : VldI g
  · rw [vb_true hv, if_neg (by decide)] at h
    by_cases hn : NodesI g.length l
    · obtain ⟨gn, rfl, hg⟩ := hv.vg
      obtain ⟨S, rfl, hS⟩ := nodes_nat hn
      exact ⟨gn, S, rfl, hg, rfl, by rwa [cst_len] at hS⟩
    · rw [nb_false hn] at h; simp at h
  · rw [vb_false hv] at h; simp at h
set_option maxHeartbeats 1000000 in
theorem reach_err (v vl : Value) (g : List (List Int)) (l : List Int) (w : World) (h : Gr iv w v g) (hl : Lim g) (hn : Sl iv w vl l) (hnl : l.length ≤ 10000) (hc : chk g l ≠ 0) :
    Calls Try.prog 21 #[v, vl] w (ErrR (chk g l) w) := by
  obtain ⟨A, c, rfl⟩ := h.shape
  obtain ⟨A2, c2, rfl⟩ := hn.shape
  have H := Lib.hid h; have HL := Lib.hid hl; have HN := Lib.hid hn
  have hcb : (chk g l != 0) = true := by rw [bne_iff_ne]; exact hc
  clear h hl hn hc
  go_enter Try.func21, Try.ntmps21
  go_wp2_with fail
  refine (check_any _ _ _ l _ H.out HL.out HN.out hnl).mono ?_
  rintro e w0 ⟨rfl, hb0⟩
  generalize chk g l = ec at *
  go_wp2
  go_ret2
  exact ⟨rfl, hb0⟩
set_option maxHeartbeats 1000000 in
theorem dist_err (v vl : Value) (g : List (List Int)) (l : List Int) (w : World) (h : Gr iv w v g) (hl : Lim g) (hn : Sl iv w vl l) (hnl : l.length ≤ 10000) (hc : chk g l ≠ 0) :
    Calls Try.prog 23 #[v, vl] w (ErrR (chk g l) w) := by
  obtain ⟨A, c, rfl⟩ := h.shape
  obtain ⟨A2, c2, rfl⟩ := hn.shape
  have H := Lib.hid h; have HL := Lib.hid hl; have HN := Lib.hid hn
  have hcb : (chk g l != 0) = true := by rw [bne_iff_ne]; exact hc
  clear h hl hn hc
  go_enter Try.func23, Try.ntmps23
  go_wp2_with fail
  refine (check_any _ _ _ l _ H.out HL.out HN.out hnl).mono ?_
  rintro e w0 ⟨rfl, hb0⟩
  generalize chk g l = ec at *
  go_wp2
  go_ret2
  exact ⟨rfl, hb0⟩
set_option maxHeartbeats 1000000 in
theorem path_err (v : Value) (g : List (List Int)) (u t : Int) (w : World) (h : Gr iv w v g) (hl : Lim g) (hc : chk g [u, t] ≠ 0) :
    Calls Try.prog 26 #[v, .int .i64 u, .int .i64 t] w (ErrR (chk g [u, t]) w) := by
  obtain ⟨A, c, rfl⟩ := h.shape
  have H := Lib.hid h; have HL := Lib.hid hl
  have hcb : (chk g [u, t] != 0) = true := by rw [bne_iff_ne]; exact hc
  clear h hl hc
  go_enter Try.func26, Try.ntmps26
  go_wp2_with fail
  refine (check_any _ _ _ [u, t] _ (H.out.below (below_alloc _ _)) HL.out (lit_sl iv w _ _ 2 [u, t] rfl rfl _) (by simp)).mono ?_
  rintro e w0 ⟨rfl, hb0⟩
  have HB := Lib.hid ((below_alloc w _).trans (hb0.mono (by simp)))
  clear hb0
  generalize chk g [u, t] = ec at *
  go_wp2
  go_ret2
  exact ⟨rfl, HB.out⟩
set_option maxHeartbeats 1000000 in
theorem back_err (v : Value) (g : List (List Int)) (w : World) (h : Gr iv w v g) (hl : Lim g) (hc : vb g = false) :
    Calls Try.prog 15 #[v] w (ErrR 1 w) := by
  obtain ⟨A, c, rfl⟩ := h.shape
  have H := Lib.hid h; have HL := Lib.hid hl
  have hcb : chk g [] = 1 := by unfold chk; rw [hc]; rfl
  have Hcb := Lib.hid hcb
  clear h hl hc hcb
  go_enter Try.func15, Try.ntmps15
  go_wp2_with fail
  refine (check_any _ _ _ [] _ H.out HL.out Sl.nil (by simp)).mono ?_
  rintro e w0 ⟨rfl, hb0⟩
  rw [Hcb.out]
  go_wp2
  go_ret2
  exact ⟨rfl, hb0⟩
set_option maxHeartbeats 1000000 in
theorem rback_err (v : Value) (g : List (List Int)) (w : World) (h : Gr iv w v g) (hl : Lim g) (hc : vb g = false) :
    Calls Try.prog 16 #[v] w (ErrR 1 w) := by
  obtain ⟨A, c, rfl⟩ := h.shape
  have H := Lib.hid h; have HL := Lib.hid hl; have HC := Lib.hid hc
  clear h hl hc
  go_enter Try.func16, Try.ntmps16
  go_wp2_with fail
  refine (rvalid_any _ _ _ H.out HL.out).mono ?_
  rintro e w0 ⟨rfl, hb0⟩
  rw [HC.out]
  go_wp2
  go_ret2
  exact ⟨rfl, hb0⟩
set_option maxHeartbeats 1000000 in
theorem rdist_err (v vl : Value) (g : List (List Int)) (l : List Int) (w : World) (h : Gr iv w v g) (hl : Lim g) (hn : Sl iv w vl l) (hnl : l.length ≤ 10000) (hc : chk g l ≠ 0) :
    Calls Try.prog 24 #[v, vl] w (ErrR (chk g l) w) := by
  obtain ⟨A, c, rfl⟩ := h.shape
  obtain ⟨A2, c2, rfl⟩ := hn.shape
  have H := Lib.hid h; have HL := Lib.hid hl; have HN := Lib.hid hn
  clear h hl hn
  cases hv : vb g with
  | false =>
    have hcb : chk g l = 1 := by unfold chk; rw [hv]; rfl
    have Hv := Lib.hid hv
    rw [hcb]
    clear hv hc hcb
    go_enter Try.func24, Try.ntmps24
    go_wp2_with fail
    refine (rvalid_any _ _ _ H.out HL.out).mono ?_
    rintro e w0 ⟨rfl, hb0⟩
    rw [Hv.out]
    go_wp2
    go_ret2
    exact ⟨rfl, hb0⟩
  | true =>
    cases hb : nb g.length l with
    | true => exact absurd (by unfold chk; rw [hv, hb]; rfl) hc
    | false =>
      have hcb : chk g l = 2 := by unfold chk; rw [hv, hb]; rfl
      have Hv := Lib.hid hv; have Hb := Lib.hid hb
      rw [hcb]
      clear hv hc hcb hb
      go_enter Try.func24, Try.ntmps24
      go_wp2_with fail
      refine (rvalid_any _ _ _ H.out HL.out).mono ?_
      rintro e w0 ⟨rfl, hb0⟩
      rw [Hv.out]
      go_wp2_with fail
      refine (rnodes_any _ _ g _ _ (H.out.below hb0) (HN.out.below hb0) hnl).mono ?_
      rintro e w1 ⟨rfl, hb1⟩
      rw [Hb.out]
      have HB := Lib.hid (hb0.trans (hb1.mono hb0.size))
      clear hb0 hb1
      go_wp2
      go_ret2
      exact ⟨rfl, HB.out⟩
end Go.Proofs.Ytnhhhnhakpambaa
