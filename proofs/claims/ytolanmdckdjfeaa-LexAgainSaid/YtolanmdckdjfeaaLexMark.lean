/- Layer 9: the contracts of isMark and of the scanner's method for marks. -/
import Derived.Test.YtolanmdckdjfeaaLexName
namespace Go.Proofs.Ytolanmdckdjfeaa
open Go.RowKit

set_option maxRecDepth 20000 in
set_option maxHeartbeats 1000000 in
theorem isMark_s (s : ByteArray) (w : World) : Calls Try.prog 58 #[.string s] w (BoolIs (isMk s.toList) w) := by
  go_enter Try.func58, Try.ntmps58
  go_wp2
  all_goals
    go_ret
    refine BoolIs.mk ?_
    simp_all [isMk, marks]
theorem isMark_any (l : List UInt8) (w : World) : Calls Try.prog 58 #[.string (ofL l)] w (BoolIs (isMk l) w) := by
  have := isMark_s (ofL l) w
  rwa [ofL_toList] at this
theorem mark_found {r : List UInt8} {m j : Nat} (hm : m = min 2 r.length) (h1 : 1 ≤ j) (h2 : j ≤ m) (hj : isMk (r.take j) = true) (hn : ∀ i, j < i → i ≤ m → isMk (r.take i) = false) : tkMark r = .ok 4 (r.take j) 0 j := by
  unfold tkMark
  by_cases e : j = 2
  · subst e
    rw [if_pos ⟨by omega, hj⟩]
  · have e1 : j = 1 := by omega
    subst e1
    rw [if_neg, if_pos ⟨by omega, hj⟩]
    rintro ⟨h3, h4⟩
    rw [hn 2 (by omega) (by omega)] at h4
    cases h4
theorem mark_none {r : List UInt8} {m : Nat} (hm : m = min 2 r.length) (hn : ∀ i, 0 < i → i ≤ m → isMk (r.take i) = false) : tkMark r = .err 3 := by
  unfold tkMark
  rw [if_neg, if_neg]
  · rintro ⟨h3, h4⟩
    rw [hn 1 (by omega) (by omega)] at h4
    cases h4
  · rintro ⟨h3, h4⟩
    rw [hn 2 (by omega) (by omega)] at h4
    cases h4
def MkRel (r : List UInt8) (m : Nat) (v : Value) : Prop := ∃ j : Nat, j ≤ m ∧ v = .int .i64 (j : Int) ∧ ∀ i, j < i → i ≤ m → isMk (r.take i) = false
section
variable {w : World} {g k : Nat} {l : List UInt8}
set_option maxRecDepth 20000 in
set_option maxHeartbeats 1000000 in
theorem mark_any (h : Scn w g l k) : Calls Try.prog 50 #[.pointer (some ⟨g, 0, none⟩)] w (TokPost w g l k (tkMark (l.drop k))) := by
  obtain ⟨r, hr⟩ : ∃ r, l.drop k = r := ⟨_, rfl⟩
  obtain ⟨m, hm⟩ : ∃ m, m = min 2 r.length := ⟨_, rfl⟩
  obtain ⟨s, hs⟩ : ∃ s, s = ofL r := ⟨_, rfl⟩
  have hsz : s.size = r.length := by rw [hs, ofL_size]
  have hrl : r.length = l.length - k := by rw [← hr, List.length_drop]
  have hroom := h.room
  have hoff := h.off
  have hlt := h.lt
  have hmi : min (2 : Int) (s.size : Int) = (m : Int) := by omega
  have hms : m ≤ s.size := by omega
  have hkm : k + m ≤ l.length := by omega
  have hm2 : m ≤ 2 := by omega
  have HR := Lib.hid hr
  have HM := Lib.hid hm
  have HS := Lib.hid hs
  clear hr hm hs hrl hsz
  have H := Lib.hid h; clear h
  rw [HR.out]
  go_enter Try.func50, Try.ntmps50
  go_wp2_with fail
  refine (rest_any (H.out.alloc _)).mono ?_; rintro e w1 ⟨rfl, q, rfl⟩
  rw [HR.out, ← HS.out]
  have HT : Hid (TBox ((w.alloc (.cells #[.int .i64 0, .string { data := #[] }, .int .i64 0, .int .i64 0] 35)).drewN q) w.heap.size 0 [] 0 0) := TBox.new w
  have HO : Hid (Only g w ((w.alloc (.cells #[.int .i64 0, .string { data := #[] }, .int .i64 0, .int .i64 0] 35)).drewN q)) := (((Only.refl g w).alloc _).drewN q)
  have HC : Hid (Scn ((w.alloc (.cells #[.int .i64 0, .string { data := #[] }, .int .i64 0, .int .i64 0] 35)).drewN q) g l k) := ((H.out.alloc _).drewN q)
  generalize hw1 : (w.alloc (.cells #[.int .i64 0, .string { data := #[] }, .int .i64 0, .int .i64 0] 35)).drewN q = w1 at *
  clear hw1 H
  go_wp2
  all_goals
    go_loop [5, 6] (fun v _ => MkRel r m v) (fun v _ => (intOf v).toNat)
    case atStart => exact ⟨m, Nat.le_refl _, by congr 1; omega, fun i h1 h2 => by omega⟩
    case round =>
      obtain ⟨j, hj, rfl, hn⟩ := hrel
      have HN := Lib.hid hn; clear hn
      by_cases h0 : 0 < j
      · have he : Hid (s.extract 0 j = ofL (r.take j)) := by unfold Hid; rw [HS.out, ofL_extract]; simp
        have hjs : j ≤ s.size := by omega
        cases hb : isMk (r.take j) with
        | true =>
          have HB := Lib.hid hb; clear hb
          have hT := Lib.hid (mark_found HM.out h0 hj HB.out HN.out)
          obtain ⟨d0, d1, d2, d3, f0, f1, f2, f3⟩ := HT.out.facts
          have c1 := HC.out.cell 1
          have e1 := HC.out.free 1
          have hS2 := Lib.hid (HC.out.go (k + j) (by omega))
          have hO2 := Lib.hid (HO.out.set 1 (.int .i64 ((k + j : Nat) : Int)))
          have hT2 := Lib.hid (HT.out.keep ((Only.refl g w1).set 1 (.int .i64 ((k + j : Nat) : Int))) (by omega))
          have hkj : (k : Int) + (j : Int) ≤ 8000 := by omega
          have ecast : Hid ((k : Int) + (j : Int) = ((k + j : Nat) : Int)) := by unfold Hid; omega
          go_wp2_with fail
          rw [he.out]
          refine (isMark_any _ _).mono ?_; rintro e w2 ⟨rfl, rfl⟩; rw [HB.out]
          go_wp2_with fail
          rw [ecast.out]
          refine bodyPost_ret (v := .tuple #[tokV 4 (r.take j) 0 0, .int .i64 0]) (TBox.result ((hT2.out).store 4 0 0 (r.take j)) Try.results50 _ rfl _ rfl) rfl (TokPost.good hT.out rfl ?_ ?_)
          · exact (((hS2.out.other (by omega)).other (by omega)).other (by omega)).other (by omega)
          · exact ((((hO2.out.own (Nat.le_refl _) _ _).own (Nat.le_refl _) _ _).own (Nat.le_refl _) _ _).own (Nat.le_refl _) _ _)
        | false =>
          have HB := Lib.hid hb; clear hb
          go_wp2_with fail
          rw [he.out]
          refine (isMark_any _ _).mono ?_; rintro e w2 ⟨rfl, rfl⟩; rw [HB.out]
          go_wp2
          go_round
          case rel => 
            refine ⟨j - 1, by omega, by congr 1; omega, fun i h1 h2 => ?_⟩
            by_cases e : i = j
            · subst e; exact HB.out
            · exact HN.out i (by omega) h2
          case measure => simp [intOf]; omega
      · have hT := Lib.hid (mark_none HM.out fun i h1 h2 => HN.out i (by omega) h2)
        obtain ⟨d0, d1, d2, d3, f0, f1, f2, f3⟩ := HT.out.facts
        go_wp2
        refine bodyPost_ret (v := .tuple #[tokV 0 [] 0 0, .int .i64 3]) (TBox.result ((HT.out).store 0 0 0 []) Try.results50 _ rfl _ rfl) rfl (TokPost.bad hT.out rfl ?_)
        exact ((((HO.out.own (Nat.le_refl _) _ _).own (Nat.le_refl _) _ _).own (Nat.le_refl _) _ _).own (Nat.le_refl _) _ _)
end
end Go.Proofs.Ytolanmdckdjfeaa
