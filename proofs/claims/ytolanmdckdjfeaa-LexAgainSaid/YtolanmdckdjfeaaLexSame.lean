/- Layer 9: the contracts of Theirs and of the reference's Same. -/
import Derived.Test.YtolanmdckdjfeaaLexTks
namespace Go.Proofs.Ytolanmdckdjfeaa
open Go.RowKit

theorem info_rtok : (Try.prog.info? 38).map (fun i => (i.zero, i.size, i.bytes)) = some (some (.agg #[.int .i64 0, .string { data := #[] }, .int .i64 0, .int .i64 0]), 4, 40) := by kernel_rfl
theorem flat_snoc {ts : List Tok} {k : Nat} (h : k < ts.length) : (ts.take (k + 1)).flatMap tcells = (ts.take k).flatMap tcells ++ tcells ts[k] := by
  rw [List.take_succ_eq_append_getElem h, List.flatMap_append, List.flatMap_singleton]
def ThRel (w : World) (ts : List Tok) (o i : Value) (wr : World) : Prop :=
  ∃ k : Nat, k ≤ ts.length ∧ i = .int .i64 (k : Int) ∧ Hid (wr.ownsRow w.heap.size 38 4 o k ((ts.take k).flatMap tcells)) ∧ Hid (Below w.heap.size w wr)
def ThPost (w : World) (ts : List Tok) (e : Ending) (w' : World) : Prop :=
  ∃ v, e = .returned v ∧ w'.ownsRow w.heap.size 38 4 v ts.length (ts.flatMap tcells) ∧ Below w.heap.size w w'
set_option maxRecDepth 20000 in
set_option maxHeartbeats 1000000 in
theorem theirs_any (v : Value) (ts : List Tok) (w : World) (h : Toks w v ts) (hl : ts.length ≤ 10000) : Calls Try.prog 14 #[v] w (ThPost w ts) := by
  obtain ⟨A, c, rfl⟩ := h.shape
  have H := Lib.hid h; clear h
  go_enter Try.func14, Try.ntmps14
  go_wp2
  go_loopw [3, 4, 7] (fun o _ i wr => ThRel w ts o i wr) (fun _ _ i _ => ts.length - (intOf i).toNat)
  case atStart => exact ⟨0, by omega, rfl, World.ownsRow_nil _ _ _ _, Below.refl _ _⟩
  case round =>
    obtain ⟨k, hk, rfl, HO, HB⟩ := hrel
    by_cases hlt : k < ts.length
    · obtain ⟨ad, c', hs, hcap, d0, d1, d2, d3⟩ := toks_cell (H.out.below HB.out) k hlt
      simp only [Value.slice.injEq, true_and] at hs
      obtain ⟨rfl, rfl⟩ := hs
      obtain ⟨t, ht⟩ : ∃ t, t = ts[k] := ⟨_, rfl⟩
      rw [← ht] at d0 d1 d2 d3
      have HT := Lib.hid ht; clear ht
      have hsz := HB.out.size
      have hacc : (k + 1) * 40 ≤ 140737488355328 := by omega
      go_wp2_with (at_builtin; refine app4 rfl _ _ 27 rfl 38 _ 40 info_rtok Try.underlying27 rfl w.heap.size _ _ _ rfl HO.out _ _ _ _ rfl (by simp [Value.oneCell']) hacc (by omega) hsz ?_; intro v' w8 hown8 hf8; have hV8 := Lib.hid hown8; have hF8 := Lib.hid hf8; clear hown8 hf8)
      go_roundw
      case rel =>
        refine ⟨k + 1, by omega, by go_num, ?_, HB.out.trans (hF8.out.below hsz)⟩
        unfold Hid
        rw [flat_snoc hlt, ← HT.out]
        exact hV8.out
      case measure => simp [intOf]; omega
    · have h9 := HO.out
      obtain rfl : k = ts.length := by omega
      rw [List.take_length] at h9
      have H9 := Lib.hid h9
      clear h9
      go_wp2
      go_ret
      exact ⟨_, rfl, H9.out, HB.out⟩

/-- The same tokens, but for the places if they are left out. -/
def SameT (pl : Bool) (a b : List Tok) : Prop := a.length = b.length ∧ ∀ (j : Nat) (s t : Tok), a[j]? = some s → b[j]? = some t → s.k = t.k ∧ s.t = t.t ∧ s.v = t.v ∧ (pl = true → s.p = t.p)
theorem SameT.refl (pl : Bool) (a : List Tok) : SameT pl a a := ⟨rfl, fun j s t h1 h2 => by rw [h1] at h2; cases h2; exact ⟨rfl, rfl, rfl, fun _ => rfl⟩⟩
set_option maxRecDepth 100000 in
set_option maxHeartbeats 1000000 in
theorem same_any (va vb : Value) (a b : List Tok) (pl : Bool) (w : World) (ha : Toks w va a) (hb : Toks w vb b) (h : SameT pl a b) (hl : a.length ≤ 100000) :
    Calls Try.prog 13 #[va, vb, .bool pl] w fun e w' => e = .returned (.bool true) ∧ ∃ m, w' = w.drewN m := by
  obtain ⟨A, c, rfl⟩ := ha.shape
  obtain ⟨A2, c2, rfl⟩ := hb.shape
  obtain ⟨hlen, heq⟩ := h
  rw [← hlen] at hb ⊢
  have HA := Lib.hid ha
  have HBb := Lib.hid hb
  have HL := Lib.hid hlen
  have HE := Lib.hid heq
  clear ha hb hlen heq
  go_enter Try.func13, Try.ntmps13
  go_wp2
  go_loopw [7] (fun i wr => ∃ k : Nat, k ≤ a.length ∧ i = .int .i64 k ∧ ∃ m, wr = w.drewN m) (fun i _ => a.length - (intOf i).toNat)
  case atStart => exact ⟨0, Nat.zero_le _, rfl, 0, rfl⟩
  case round =>
    obtain ⟨k, hk, rfl, m, rfl⟩ := hrel
    by_cases hlt : k < a.length
    · have hlt2 : k < b.length := by have := HL.out; omega
      obtain ⟨ad, c', hs, hcap, d0, d1, d2, d3⟩ := toks_cell HA.out k hlt
      simp only [Value.slice.injEq, true_and] at hs
      obtain ⟨rfl, rfl⟩ := hs
      obtain ⟨bd, c2', hs, hcap2, e0, e1, e2, e3⟩ := toks_cell HBb.out k hlt2
      simp only [Value.slice.injEq] at hs
      obtain ⟨rfl, -, rfl⟩ := hs
      rw [← HL.out] at hcap2
      obtain ⟨q1, q2, q3, q4⟩ := HE.out k a[k] b[k] (List.getElem?_eq_getElem hlt) (List.getElem?_eq_getElem hlt2)
      rw [← q1] at e0
      rw [← q2] at e1
      rw [← q3] at e2
      obtain ⟨s, hs⟩ : ∃ s, s = a[k] := ⟨_, rfl⟩
      rw [← hs] at d0 d1 d2 d3 e0 e1 e2
      obtain ⟨p, hp⟩ : ∃ p, p = b[k].p := ⟨_, rfl⟩
      rw [← hp] at e3
      cases pl with
      | true =>
        have q5 : s.p = p := by rw [hs, hp]; exact q4 rfl
        rw [← q5] at e3
        clear hs hp q1 q2 q3 q4 q5
        go_wp2
        go_quiet (fail)
        go_wp2
        go_roundw
        case rel => exact ⟨k + 1, by omega, by go_num, m + nq, by simp [World.drewN]⟩
        case measure => simp [intOf]; omega
      | false =>
        clear hs hp q1 q2 q3 q4
        go_wp2
        go_quiet (fail)
        go_wp2
        go_roundw
        case rel => exact ⟨k + 1, by omega, by go_num, m + nq, by simp [World.drewN]⟩
        case measure => simp [intOf]; omega
    · go_wp2
      go_ret
      exact ⟨rfl, m, rfl⟩
end Go.Proofs.Ytolanmdckdjfeaa
