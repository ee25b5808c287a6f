/- Layer 13: plain facts of Join. -/
import Derived.Test.YteoddcamicmapaaZnJo
import Derived.Test.YteoddcamicmapaaZnPl
namespace Go.Proofs.Yteoddcamicmapaa
open Go.RowKit

theorem jn_zv {n : Nat} {c d : List Int} (hc : Zv n c) (hd : Zv n d) : Zv n (flat n (jnB n c d)) :=
  ⟨hc.pos, hc.few, flat_len _ _, fun i j hi hj => by
    rw [gt_flat _ hi hj]; unfold jnB
    have := hc.lo i j hi hj; have := hd.lo i j hi hj
    omega, fun i j hi hj => by
    rw [gt_flat _ hi hj]; unfold jnB
    have := hc.hi i j hi hj; have := hd.hi i j hi hj
    omega⟩
theorem fu_zv {n : Nat} (h1 : 1 ≤ n) (h2 : n ≤ 25) : Zv n (flat n fuB) :=
  ⟨h1, h2, flat_len _ _, fun i j hi hj => by rw [gt_flat _ hi hj]; have := fuB_lo i j; omega, fun i j hi hj => by rw [gt_flat _ hi hj]; exact fuB_hi i j⟩
theorem em_get {n i j : Nat} (h1 : 1 ≤ n) (hi : i < n) (hj : j < n) : gt n (emL n) i j = if i = 0 ∧ j = 0 then -20001 else fuB i j := by
  have := gt_set (n := n) (i := 0) (j := 0) (k := i) (l := j) (b := flat n fuB) (-20001) (flat_len _ _) h1 h1 hj
  rw [gt_flat _ hi hj] at this
  rw [show 0 * n + 0 = 0 by omega] at this
  exact this
theorem em_zv {n : Nat} (h1 : 1 ≤ n) (h2 : n ≤ 25) : Zv n (emL n) :=
  ⟨h1, h2, emL_len n, fun i j hi hj => by rw [em_get h1 hi hj]; have := fuB_lo i j; split <;> omega, fun i j hi hj => by rw [em_get h1 hi hj]; have := fuB_hi i j; split <;> omega⟩
theorem em_none {n : Nat} (h1 : 1 ≤ n) (h2 : n ≤ 25) : cls n (emL n) = none := (cls_none (em_zv h1 h2)).2 fun u hu => by
  have := hu 0 0 h1 h1
  unfold dm at this
  rw [em_get h1 h1 h1, if_pos ⟨rfl, rfl⟩] at this
  omega
theorem sub_none {n : Nat} {a b : List Int} (h : cls n a = none) : Subs n a b := fun c hc => by rw [h] at hc; cases hc
theorem cls_self {n : Nat} {a c : List Int} (ha : Zv n a) (hc : cls n a = some c) : cls n c = some c := by
  have hi := cls_is ha hc
  have hv := cls_zv ha hc
  refine ClR.cls hv ⟨hi.1 |> fun _ => hv.len, ?_⟩
  exact ⟨fun i j h1 h2 => by have := hi.hi h1 h2; unfold dm; omega, hi.dg, hi.tr, fun u hu i j h1 h2 => by have := hu i j h1 h2; unfold dm at this; omega⟩
/-- Two closed zones, joined, are closed. -/
theorem jn_cls {n : Nat} {a b c d : List Int} (ha : Zv n a) (hb : Zv n b) (hc : cls n a = some c) (hd : cls n b = some d) : cls n (flat n (jnB n c d)) = some (flat n (jnB n c d)) := by
  have h1 := cls_is ha hc
  have h2 := cls_is hb hd
  have hv := jn_zv (cls_zv ha hc) (cls_zv hb hd)
  refine ClR.cls hv ⟨hv.len, ?_⟩
  refine ⟨fun i j hi hj => ?_, fun i hi => ?_, fun i j k hi hj hk => ?_, fun u hu i j hi hj => ?_⟩
  · rw [gt_flat _ hi hj]
    unfold dm
    rw [gt_flat _ hi hj]
    have := h1.hi hi hj; have := h2.hi hi hj
    unfold jnB; omega
  · rw [gt_flat _ hi hi]
    have := h1.dg i hi; have := h2.dg i hi
    unfold jnB; omega
  · rw [gt_flat _ hi hj, gt_flat _ hi hk, gt_flat _ hk hj]
    have := h1.tr i j k hi hj hk; have := h2.tr i j k hi hj hk
    unfold jnB; omega
  · have := hu i j hi hj
    unfold dm at this; omega
/-- What Join and Widen tell, and how they lie. -/
theorem least_facts {m : Nat} {a b : List Int} (ha : Zv (m + 1) a) (hb : Zv (m + 1) b) :
    ∃ jl wl, joinZ (m : Int) a (m : Int) b = (((m : Int), jl), .int .i64 0) ∧ widZ (m : Int) a (m : Int) b = (((m : Int), wl), .int .i64 0) ∧ Zv (m + 1) jl ∧ Zv (m + 1) wl ∧
      Subs (m + 1) a jl ∧ Subs (m + 1) b jl ∧ Subs (m + 1) jl wl ∧ ∀ c, Zv (m + 1) c → Subs (m + 1) a c → Subs (m + 1) b c → Subs (m + 1) jl c := by
  have hali := zv_ali ha hb
  have h1n : 1 ≤ m + 1 := ha.pos
  have h2n : m + 1 ≤ 25 := ha.few
  cases hca : cls (m + 1) a with
  | none =>
    have eA := (closeR_nat ha).trans hca
    cases hcb : cls (m + 1) b with
    | none =>
      have eB := (closeR_nat hb).trans hcb
      exact ⟨_, _, joinZ_0 hali eA eB, widZ_1 hali eB, em_zv h1n h2n, ha, sub_none hca, sub_none hcb, sub_none (em_none h1n h2n), fun c _ _ _ => sub_none (em_none h1n h2n)⟩
    | some d =>
      have eB := (closeR_nat hb).trans hcb
      have hv := cls_zv hb hcb
      refine ⟨_, _, joinZ_2 hali eA eB, widZ_2 hali eB eA, hv, hv, sub_none hca, ?_, subs_refl hv, fun c hc _ h => ?_⟩
      · intro e he i j hi hj; rw [hcb] at he; cases he; exact Int.le_refl _
      · intro e he i j hi hj
        rw [cls_self hb hcb] at he; cases he
        exact h _ hcb i j hi hj
  | some c =>
    have eA := (closeR_nat ha).trans hca
    have hvc := cls_zv ha hca
    cases hcb : cls (m + 1) b with
    | none =>
      have eB := (closeR_nat hb).trans hcb
      refine ⟨_, _, joinZ_1 hali eA eB, widZ_1 hali eB, hvc, ha, ?_, sub_none hcb, ?_, fun e hc h _ => ?_⟩
      · intro e he i j hi hj; rw [hca] at he; cases he; exact Int.le_refl _
      · intro e he i j hi hj
        rw [cls_self ha hca] at he; cases he
        have := (cls_is ha hca).le i j hi hj
        unfold dm at this; omega
      · intro f hf i j hi hj
        rw [cls_self ha hca] at hf; cases hf
        exact h _ hca i j hi hj
    | some d =>
      have eB := (closeR_nat hb).trans hcb
      have hj := jn_cls ha hb hca hcb
      have hvj := jn_zv hvc (cls_zv hb hcb)
      have h1 := cls_is ha hca
      have h2 := cls_is hb hcb
      refine ⟨_, _, joinZ_3 hali eA eB, widZ_3 hali eB eA, hvj, wi_zv ha, ?_, ?_, ?_, fun e _ h3 h4 => ?_⟩
      · intro e he i j hi hj; rw [hca] at he; cases he; rw [gt_flat _ hi hj]; unfold jnB; omega
      · intro e he i j hi hj; rw [hcb] at he; cases he; rw [gt_flat _ hi hj]; unfold jnB; omega
      · intro e he i j hi hj2
        rw [hj] at he; cases he
        have h5 := wi_dm (a := a) (c := d) hi hj2
        have h6 := wi_ge (a := a) (c := d) hi hj2 (h2.hi hi hj2)
        have h7 := h1.le i j hi hj2
        rw [gt_flat _ hi hj2]; unfold jnB; omega
      · intro f hf i j hi hj2
        rw [hj] at hf; cases hf
        have h5 := h3 _ hca i j hi hj2
        have h6 := h4 _ hcb i j hi hj2
        rw [gt_flat _ hi hj2]; unfold jnB; omega
theorem least_bad {N M : Int} {a b : List Int} (h : aliB N a M b = false) : joinZ N a M b = ((0, []), .int .i64 1) ∧ widZ N a M b = ((0, []), .int .i64 1) := ⟨joinZ_bad h, widZ_bad h⟩
end Go.Proofs.Yteoddcamicmapaa
