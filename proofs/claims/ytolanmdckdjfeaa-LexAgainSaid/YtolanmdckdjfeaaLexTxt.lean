/- Layer 9: the contract of the scanner's method for texts. -/
import Derived.Test.YtolanmdckdjfeaaLexText
import Derived.Deep.LoopGhost
namespace Go.Proofs.Ytolanmdckdjfeaa
open Go.RowKit

def TxRel (w : World) (g : Nat) (l : List UInt8) (k : Nat) (gk : Nat) (b : Value) (wr : World) : Prop :=
  ∃ (j : Nat) (xs : List UInt8), k + 1 ≤ j ∧ l.length ≤ gk + j ∧ xs.length ≤ j ∧ Hid (Scn wr g l j) ∧ Hid (Only g w wr) ∧ Hid (TBox wr w.heap.size 0 [] 0 0) ∧
    Hid (wr.ownsRow w.heap.size 5 1 b xs.length ((xs.map UInt8.toNat).map bv)) ∧ Hid (txt (l.drop (k + 1)) = (txt (l.drop j)).map fun x => (xs ++ x.1, x.2 + (j - (k + 1))))
theorem strOf_ofL (xs : List UInt8) : strOf (xs.map UInt8.toNat) = ofL xs := by
  unfold strOf ofL
  rw [List.map_map]
  congr 2
  conv => rhs; rw [← List.map_id xs]
  exact List.map_congr_left fun c _ => UInt8.ofNat_toNat
section
variable {w : World} {g k : Nat} {l : List UInt8}
set_option maxRecDepth 20000 in
set_option maxHeartbeats 1000000 in
theorem text_any (h : Scn w g l k) (hq : nxt (l.drop k) = 34) : Calls Try.prog 49 #[.pointer (some ⟨g, 0, none⟩)] w (TokPost w g l k (tkText (l.drop (k + 1)))) := by
  have hroom := h.room
  have hlt := h.lt
  have hk1 : k + 1 ≤ l.length := by
    by_cases e : k < l.length
    · omega
    · rw [nxt_end (by omega)] at hq; omega
  clear hq
  have c1 := h.cell 1
  have f1 := h.free 1
  have HA := Lib.hid h
  clear h
  have ecast : Hid ((k : Int) + 1 = ((k + 1 : Nat) : Int)) := by unfold Hid; omega
  have S1 := Lib.hid ((HA.out.go (k + 1) hk1).alloc (.cells #[.int .i64 0, .string { data := #[] }, .int .i64 0, .int .i64 0] 35))
  have T1 : Hid (TBox ((w.setCell ⟨g, 1, none⟩ (.int .i64 ((k + 1 : Nat) : Int))).alloc (.cells #[.int .i64 0, .string { data := #[] }, .int .i64 0, .int .i64 0] 35)) w.heap.size 0 [] 0 0) := by
    have := TBox.new (w.setCell ⟨g, 1, none⟩ (.int .i64 ((k + 1 : Nat) : Int)))
    rwa [show (w.setCell ⟨g, 1, none⟩ (.int .i64 ((k + 1 : Nat) : Int))).heap.size = w.heap.size by simp [World.setCell]] at this
  have O1 : Hid (Only g w ((w.setCell ⟨g, 1, none⟩ (.int .i64 ((k + 1 : Nat) : Int))).alloc (.cells #[.int .i64 0, .string { data := #[] }, .int .i64 0, .int .i64 0] 35))) := ((Only.refl g w).set 1 _).alloc _
  go_enter Try.func49, Try.ntmps49
  go_wp2
  rw [ecast.out]
  generalize hw1 : (w.setCell ⟨g, 1, none⟩ (.int .i64 ((k + 1 : Nat) : Int))).alloc (.cells #[.int .i64 0, .string { data := #[] }, .int .i64 0, .int .i64 0] 35) = w1 at *
  clear hw1 HA c1 f1 ecast
  go_loopg [4, 5, 6] (l.length) (fun gk b _ _ wr => TxRel w g l k gk b wr)
  case atStart =>
    refine ⟨k + 1, [], by omega, by omega, by simp, S1, O1, T1, World.ownsRow_nil _ _ _ _, ?_⟩
    unfold Hid
    simp
  case round =>
    clear S1 O1 T1
    obtain ⟨j, xs, hkj, hgk, hxl, HS, HO, HT, HB, HX⟩ := hrel
    obtain ⟨x, hx⟩ : ∃ x, nxt (l.drop j) = x := ⟨_, rfl⟩
    have HN := Lib.hid hx
    by_cases h34 : x = 34
    · have t34 : ((x : Int) != 34) = false := by simp; omega
      have hj1 : j + 1 ≤ l.length := by
        by_cases e : j < l.length
        · omega
        · rw [nxt_end (by omega)] at hx; omega
      have HTT := Lib.hid (show txt (l.drop (k + 1)) = some (xs, j - k) by rw [HX.out, txt_stop (by rw [hx]; exact h34)]; simp; omega)
      have ecast : Hid ((j : Int) + 1 = ((j + 1 : Nat) : Int)) := by unfold Hid; omega
      have hj8 : j ≤ 8000 := by omega
      clear hx h34
      have hsl := Bsl.of_own HB.out
      obtain ⟨A, cp, hA⟩ : ∃ A cp, u4 = .slice A xs.length cp := by
        rcases hsl with ⟨rfl, h0⟩ | ⟨ad, c, rfl, _⟩
        · exact ⟨none, 0, by simp at h0; rw [h0]; rfl⟩
        · exact ⟨some ad, c, by simp⟩
      subst hA
      clear hsl
      by_cases h40 : 40 < xs.length
      · have hT := Lib.hid (show tkText (l.drop (k + 1)) = .err 6 by unfold tkText; rw [HTT.out]; simp only [if_pos h40])
        go_wp2_with fail
        refine (next_any HS.out).mono ?_; rintro e w2 ⟨rfl, m, rfl⟩; rw [HN.out]
        have HS2 := Lib.hid (HS.out.drewN m)
        have HO2 := Lib.hid (HO.out.drewN m)
        have HT2 : Hid (TBox (wr.drewN m) w.heap.size 0 [] 0 0) := HT.out
        have HB2 : Hid ((wr.drewN m).ownsRow w.heap.size 5 1 (.slice A xs.length cp) xs.length ((xs.map UInt8.toNat).map bv)) := HB.out
        generalize hw2 : wr.drewN m = w2 at *
        clear hw2
        have c1 := HS2.out.cell 1
        have f1 := HS2.out.free 1
        have HS3 := Lib.hid (HS2.out.go (j + 1) hj1)
        have HO3 := Lib.hid (HO2.out.set 1 (.int .i64 ((j + 1 : Nat) : Int)))
        have HT3 := Lib.hid (HT2.out.keep ((Only.refl g w2).set 1 (.int .i64 ((j + 1 : Nat) : Int))) (by omega))
        have hrs0 := run_str (P := Try.prog) (w2.setCell ⟨g, 1, none⟩ (.int .i64 ((j + 1 : Nat) : Int))) 56 5 9 Try.underlying56 Try.underlying5 Try.underlying9 _ (xs.map UInt8.toNat) (Bsl.of_own (own_only HB2.out ((Only.refl g w2).set 1 (.int .i64 ((j + 1 : Nat) : Int))) hlt))
        rw [strOf_ofL, ← ecast.out] at hrs0
        obtain ⟨d0, d1, d2, d3, f10, f11, f12, f13⟩ := HT2.out.facts
        go_wp2
        rw [ecast.out]
        refine bodyPost_ret (v := .tuple #[tokV 0 [] 0 0, .int .i64 6]) (TBox.result ((HT3.out).store 0 0 0 []) Try.results49 _ rfl _ rfl) rfl (TokPost.bad hT.out rfl ?_)
        exact ((((HO3.out.own (Nat.le_refl _) _ _).own (Nat.le_refl _) _ _).own (Nat.le_refl _) _ _).own (Nat.le_refl _) _ _)
      · have hT := Lib.hid (show tkText (l.drop (k + 1)) = .ok 3 xs 0 (j - k + 1) by unfold tkText; rw [HTT.out]; simp only [if_neg h40])
        go_wp2_with fail
        refine (next_any HS.out).mono ?_; rintro e w2 ⟨rfl, m, rfl⟩; rw [HN.out]
        have HS2 := Lib.hid (HS.out.drewN m)
        have HO2 := Lib.hid (HO.out.drewN m)
        have HT2 : Hid (TBox (wr.drewN m) w.heap.size 0 [] 0 0) := HT.out
        have HB2 : Hid ((wr.drewN m).ownsRow w.heap.size 5 1 (.slice A xs.length cp) xs.length ((xs.map UInt8.toNat).map bv)) := HB.out
        generalize hw2 : wr.drewN m = w2 at *
        clear hw2
        have c1 := HS2.out.cell 1
        have f1 := HS2.out.free 1
        have HS3 := Lib.hid (HS2.out.go (j + 1) hj1)
        have HO3 := Lib.hid (HO2.out.set 1 (.int .i64 ((j + 1 : Nat) : Int)))
        have HT3 := Lib.hid (HT2.out.keep ((Only.refl g w2).set 1 (.int .i64 ((j + 1 : Nat) : Int))) (by omega))
        have hrs0 := run_str (P := Try.prog) (w2.setCell ⟨g, 1, none⟩ (.int .i64 ((j + 1 : Nat) : Int))) 56 5 9 Try.underlying56 Try.underlying5 Try.underlying9 _ (xs.map UInt8.toNat) (Bsl.of_own (own_only HB2.out ((Only.refl g w2).set 1 (.int .i64 ((j + 1 : Nat) : Int))) hlt))
        rw [strOf_ofL, ← ecast.out] at hrs0
        obtain ⟨d0, d1, d2, d3, f10, f11, f12, f13⟩ := HT2.out.facts
        go_wp2
        rw [ecast.out]
        refine bodyPost_ret (v := .tuple #[tokV 3 xs 0 0, .int .i64 0]) (TBox.result ((HT3.out).store 3 0 0 xs) Try.results49 _ rfl _ rfl) rfl (TokPost.good hT.out rfl ?_ ?_)
        · rw [show k + (j - k + 1) = j + 1 by omega]
          exact (((HS3.out.other (by omega)).other (by omega)).other (by omega)).other (by omega)
        · exact ((((HO3.out.own (Nat.le_refl _) _ _).own (Nat.le_refl _) _ _).own (Nat.le_refl _) _ _).own (Nat.le_refl _) _ _)
    · have t34 : ((x : Int) != 34) = true := by simp; omega
      cases he : elm (l.drop j) with
      | none =>
        have HE := Lib.hid he
        have hT := Lib.hid (show tkText (l.drop (k + 1)) = .err 3 by unfold tkText; rw [HX.out, txt_none (by rw [hx]; exact h34) he]; rfl)
        clear he hx h34
        go_wp2_with fail
        refine (next_any HS.out).mono ?_; rintro e w2 ⟨rfl, m, rfl⟩; rw [HN.out]
        have HS2 := Lib.hid (HS.out.drewN m)
        have HO2 := Lib.hid (HO.out.drewN m)
        have HT2 : Hid (TBox (wr.drewN m) w.heap.size 0 [] 0 0) := HT.out
        generalize hw2 : wr.drewN m = w2 at *
        clear hw2
        go_wp2_with fail
        refine (element_any HS2.out).mono ?_
        rw [HE.out]
        rintro e w3 ⟨rfl, O3⟩
        have HT3 := Lib.hid (HT2.out.keep O3 (by omega))
        have HO3 := Lib.hid (HO2.out.trans O3)
        clear O3
        obtain ⟨d0, d1, d2, d3, f0, f1, f2, f3⟩ := HT3.out.facts
        go_wp2
        refine bodyPost_ret (v := .tuple #[tokV 0 [] 0 0, .int .i64 3]) (TBox.result ((HT3.out).store 0 0 0 []) Try.results49 _ rfl _ rfl) rfl (TokPost.bad hT.out rfl ?_)
        exact ((((HO3.out.own (Nat.le_refl _) _ _).own (Nat.le_refl _) _ _).own (Nat.le_refl _) _ _).own (Nat.le_refl _) _ _)
      | some y =>
        obtain ⟨c, n⟩ := y
        have HE := Lib.hid he
        obtain ⟨⟨hn1, hn2, hc⟩, htx⟩ := txt_more (by rw [hx]; exact h34) he
        have HTX := Lib.hid htx
        clear he hx h34 htx
        rw [List.length_drop] at hn2
        go_wp2_with fail
        refine (next_any HS.out).mono ?_; rintro e w2 ⟨rfl, m, rfl⟩; rw [HN.out]
        have HS2 := Lib.hid (HS.out.drewN m)
        have HO2 := Lib.hid (HO.out.drewN m)
        have HT2 : Hid (TBox (wr.drewN m) w.heap.size 0 [] 0 0) := HT.out
        have HB2 : Hid ((wr.drewN m).ownsRow w.heap.size 5 1 u4 xs.length ((xs.map UInt8.toNat).map bv)) := HB.out
        generalize hw2 : wr.drewN m = w2 at *
        clear hw2
        go_wp2_with fail
        refine (element_any HS2.out).mono ?_
        rw [HE.out]
        rintro e w3 ⟨rfl, S3, O3⟩
        have HT3 := Lib.hid (HT2.out.keep O3 (by omega))
        have HB3 := Lib.hid (own_only HB2.out O3 hlt)
        have HO3 := Lib.hid (HO2.out.trans O3)
        have HS3 := Lib.hid S3
        have hB3 := HO3.out.size
        clear O3 S3
        go_wp2_with (at_builtin; refine app1 rfl _ _ 56 rfl 5 (.int .u8 0) info_u8 Try.underlying56 rfl w.heap.size _ _ _ rfl HB3.out _ rfl rfl (by unfold Room2; omega) hB3 ?_; intro v' w4 hown4 hf4; have HB4 := Lib.hid hown4; have HF4 := Lib.hid hf4; clear hown4 hf4)
        go_roundg (gk - n)
        case rel =>
          refine ⟨j + n, xs ++ [UInt8.ofNat c], by omega, by omega, by simp; omega, ?_, HO3.out.frm HF4.out (Nat.le_refl _), ?_, ?_, ?_⟩
          · exact ⟨HF4.out.keeps HS3.out.blk (by decide), HS3.out.off, HS3.out.room⟩
          · exact HF4.out.keeps HT3.out (by decide)
          · have h4 := HB4.out
            rw [List.length_append, List.map_append, List.map_append]
            have e : [UInt8.ofNat c].map UInt8.toNat = [c] := by simp [Nat.mod_eq_of_lt hc]
            rw [e]
            exact h4
          · unfold Hid
            rw [HX.out, HTX.out, List.drop_drop]
            cases txt (l.drop (j + n)) with
            | none => rfl
            | some z => simp; omega
        case measure => omega
end
end Go.Proofs.Ytolanmdckdjfeaa
