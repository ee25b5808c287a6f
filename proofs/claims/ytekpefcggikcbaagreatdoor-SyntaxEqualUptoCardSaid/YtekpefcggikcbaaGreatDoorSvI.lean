/- Layer 10: the contract of IsPath; what the iterator of strings.SplitSeq gives at a separator of one byte. -/
import Derived.RangeFuncBox
import Derived.RangeFuncLeaves
import Derived.Shelf.Abstract
import Derived.OwnWalkIn
import Derived.TacticsInMore
import Derived.LoopNIn
import Derived.LoopIn
import Derived.Test.YtekpefcggikcbaaGreatDoorMSvD
import Derived.Test.YtekpefcggikcbaaGreatDoorLayIdx
import Derived.Test.YtekpefcggikcbaaGreatDoorMLexSp
import Derived.Test.YtekpefcggikcbaaGreatDoorMSynM
namespace Go.Proofs.YtekpefcggikcbaaGreatDoor
open Go.RowKit Go.Shelf
attribute [local go_sem] Oper.semAt_some

/-- The words of a path. -/
def splB : Bs → List Bs
 | [] => [[]]
 | c :: r => if c = 46 then [] :: splB r else match splB r with
  | [] => [[c]]
  | x :: xs => (c :: x) :: xs
def paB (s : Bs) : Bool := decide (s.length ≤ 50) && (splB s).all wdB
theorem splB_no : ∀ l : Bs, 46 ∉ l → splB l = [l]
 | [], _ => rfl
 | c :: r, h => by
  rw [splB, if_neg (by intro e; exact h (by simp [e])), splB_no r fun e => h (by simp [e])]
theorem splB_cut : ∀ (l : Bs) (i : Nat), 46 ∉ l.take i → l[i]? = some 46 → splB l = l.take i :: splB (l.drop (i + 1))
 | [], i, _, h => by simp at h
 | c :: r, 0, _, h => by simp at h; subst h; rw [splB, if_pos rfl]; rfl
 | c :: r, i + 1, h1, h => by
  rw [List.take_succ_cons] at h1
  rw [splB, if_neg (by intro e; exact h1 (by simp [e])), splB_cut r i (fun e => h1 (by simp [e])) (by simpa using h)]
  simp
theorem idx_cases : ∀ l : Bs, (Lib.indexByte l 46 = -1 ∧ 46 ∉ l) ∨ ∃ i : Nat, Lib.indexByte l 46 = (i : Int) ∧ i < l.length ∧ l[i]? = some 46 ∧ 46 ∉ l.take i
 | [] => .inl ⟨rfl, by simp⟩
 | b :: l => by
  by_cases h : b = 46
  ·subst h
   exact .inr ⟨0, by simp [Lib.indexByte], by simp, by simp, by simp⟩
  ·have hb : (b == 46) = false := by simpa using h
   rcases idx_cases l with ⟨h1, h2⟩ | ⟨i, h1, h2, h3, h4⟩
   ·exact .inl ⟨by simp [Lib.indexByte, hb, h1], by simp [h2, Ne.symm h]⟩
   ·refine .inr ⟨i + 1, ?_, by simp; omega, by simpa using h3, by simp [h4, Ne.symm h]⟩
    rw [Lib.indexByte, hb, h1]
    have : ((i : Int) == -1) = false := by rw [beq_eq_false_iff_ne]; omega
    simp [this]
/-- The size of the string that lies in a box. -/
def szAt (W : World) (b : Nat) : Nat := match W.cell? ⟨b, 0, none⟩ with
 | some (.string s) => s.size
 | _ => 0
theorem box_same {W W' : World} {B : Nat} {t : TypeId} {v : Value} (h : Boxed W B t v) (hk : W'.heap[B]? = W.heap[B]?) : Boxed W' B t v := hk.trans h
set_option maxRecDepth 100000 in
set_option maxHeartbeats 2000000 in
theorem split1_in (n : Nat) (hn : 1 ≤ n) (pb sb kb : Nat) (x : Bs) (hx : x.length ≤ 1000) (w : World) (hp : Boxed w pb 9 (.string ⟨#[46]⟩)) (hs : Boxed w sb 9 (.string (ofL x))) (hk : Boxed w kb 3 (.int .i64 0)) (h1 : pb ≠ sb) (h2 : kb ≠ sb) :
  SeqSt .wide n Tryz.prog 169 #[.pointer (some ⟨pb, 0, none⟩), .pointer (some ⟨sb, 0, none⟩), .pointer (some ⟨kb, 0, none⟩)] (fun x : Bs => Value.string (ofL x)) (splB x) sb w := by
 intro l J Jx W hsz hW hJ hY h0
 have HP := Lib.hid hp; have HS := Lib.hid hs; have HK := Lib.hid hk; have HW := Lib.hid hW; have HJ := Lib.hid hJ; have HY := Lib.hid hY
 have hp1 := (box_same hp (hW _ hp.lt)).cell
 clear hp hs hk hW hJ hY
 refine callsIn_of_wp Tryz.func169 rfl trivial ?_ rfl
 simp only [Tryz.ntmps169, List.size_toArray, List.length_cons, List.length_nil, Nat.reduceAdd, Nat.reduceSub, Array.replicate_succ, Array.replicate_zero, List.push_toArray, List.append_toArray, List.nil_append, List.cons_append]
 gi_wp2
 clear hp1
 gi_loopw [] (fun wr => ∃ (dn : List Bs) (rest : Bs), dn ++ splB rest = splB x ∧ rest.length ≤ x.length ∧ J dn wr ∧ w.heap.size ≤ wr.heap.size ∧ Boxed wr sb 9 (.string (ofL rest)) ∧ Boxed wr pb 9 (.string ⟨#[46]⟩) ∧ Boxed wr kb 3 (.int .i64 0)) (fun wr => szAt wr sb)
 case atStart => exact ⟨[], x, rfl, Nat.le_refl _, h0, hsz, box_same HS.out (HW.out _ HS.out.lt), box_same HP.out (HW.out _ HP.out.lt), box_same HK.out (HW.out _ HK.out.lt)⟩
 case round =>
  obtain ⟨dn, rest, hdn, hle, hJd, hszr, bS, bP, bK⟩ := hrel
  obtain ⟨s, hs⟩ : ∃ s, s = ofL rest := ⟨_, rfl⟩
  rw [← hs] at bS
  have cS := bS.cell
  have cP := bP.cell
  have cK := bK.cell
  have fS := bS.frozen
  have hss : s.size = rest.length := by rw [hs, ofL_size]
  have hsd : s.data.toList = rest := by rw [hs, ofL_data]
  rcases idx_cases rest with ⟨hi, hno⟩ | ⟨i, hi, hil, hat, htk⟩
  ·have HI := Lib.hid hi
   have HD := Lib.hid (show dn ++ [rest] = splB x by rw [← hdn, splB_no rest hno])
   have HSD := Lib.hid hsd
   have HSS := Lib.hid hs
   have hyy := HY.out dn rest wr hJd (by rw [HD.out]; exact List.prefix_refl _)
   rw [← hs] at hyy
   clear hi hno hdn hsd hs
   gi_wp2
   refine ⟨trivial, (callsIn_wide.2 (Tryz.strings_Index_one s 46 _)).mono ?_⟩
   rintro e w1 ⟨rfl, rfl⟩
   rw [HSD.out, HI.out]
   obtain ⟨fn, tmps, assign, body, hy, hR⟩ := hyy
   gi_wp2
   refine hR.mono ?_
   rintro e W3 (⟨rfl, hJ3, hk3⟩ | ⟨rfl, hJx3⟩)
   ·gi_wp2
    go_end0
    exact ⟨⟨_, rfl⟩, .inl (by rw [← HD.out]; exact hJ3)⟩
   ·gi_wp2
    go_end0
    exact ⟨⟨_, rfl⟩, .inr ⟨dn, rest, by rw [HD.out]; exact List.prefix_refl _, hJx3⟩⟩
  ·have HI := Lib.hid hi
   have HD := Lib.hid (show dn ++ rest.take i :: splB (rest.drop (i + 1)) = splB x by rw [← hdn, splB_cut rest i htk hat])
   have HSD := Lib.hid hsd
   have HSS := Lib.hid hs
   have hyy := HY.out dn (rest.take i) wr hJd (by rw [← HD.out]; exact ⟨splB (rest.drop (i + 1)), by simp⟩)
   have hf1 : s.extract 0 i = ofL (rest.take i) := by rw [hs, ofL_extract]; simp
   have hf2 : s.extract (i + 1) rest.length = ofL (rest.drop (i + 1)) := by rw [hs, ofL_extract, List.take_of_length_le (by simp)]
   rw [← hf1] at hyy
   have hi2 : i < s.size := by omega
   have hss2 : s.size ≤ 1000 := by omega
   have HF2 := Lib.hid hf2
   have HJd := Lib.hid hJd
   have HT := Lib.hid htk
   clear hi htk hat hdn hsd hs hf1 hf2 hJd
   gi_wp2
   refine ⟨trivial, (callsIn_wide.2 (Tryz.strings_Index_one s 46 _)).mono ?_⟩
   rintro e w1 ⟨rfl, rfl⟩
   rw [HSD.out, HI.out]
   obtain ⟨fn, tmps, assign, body, hy, hR⟩ := hyy
   gi_wp2
   refine hR.mono ?_
   rintro e W3 (⟨rfl, hJ3, hs3, hk3⟩ | ⟨rfl, hJx3⟩)
   ·have hk3 := hk3 hszr
    have bS3 := box_same bS (hk3 _ HS.out.lt)
    have bP3 := box_same bP (hk3 _ HP.out.lt)
    have bK3 := box_same bK (hk3 _ HK.out.lt)
    have cS3 := bS3.cell
    have cP3 := bP3.cell
    have cK3 := bK3.cell
    have fS3 := bS3.frozen
    gi_wp2
    go_roundw
    case rel => exact ⟨dn ++ [rest.take i], rest.drop (i + 1), by rw [← HD.out]; simp, by simp; omega, HJ.out _ _ _ hJ3 ((Only.refl sb W3).set 0 _), Nat.le_trans hszr (Nat.le_trans hs3 (KeepsWalks.setCell _ _ _).size), by rw [← HF2.out]; exact bS3.set _, box_same bP3 (Below.heap_setCell W3 _ _ pb h1), box_same bK3 (Below.heap_setCell W3 _ _ kb h2)⟩
    case measure =>
     unfold szAt
     rw [(bS3.set _).cell, cS]
     show (s.extract (i + 1) rest.length).size < s.size
     rw [HF2.out, ofL_size, hss, List.length_drop]
     omega
   ·gi_wp2
    refine bodyPost_ret (results_none rfl _ _ _) rfl ?_
    exact ⟨⟨_, rfl⟩, .inr ⟨dn, rest.take i, by rw [← HD.out]; exact ⟨splB (rest.drop (i + 1)), by simp⟩, hJx3⟩⟩
/-- SplitSeq(s, sep): three boxes, and the function value that captures them. -/
theorem split_make (n : Nat) (hn : 1 ≤ n) (x : Bs) (w : World) :
  CallsIn .wide n Tryz.prog 60 #[.string (ofL x), .string ⟨#[46]⟩] w fun e w' => e = .returned (.func (.func 169) #[] #[.pointer (some ⟨w.heap.size + 1, 0, none⟩), .pointer (some ⟨w.heap.size, 0, none⟩), .pointer (some ⟨w.heap.size + 2, 0, none⟩)]) ∧
   w' = ((w.alloc (.cells #[.string (ofL x)] 9)).alloc (.cells #[.string ⟨#[46]⟩] 9)).alloc (.cells #[.int .i64 0] 3) := by
 refine callsIn_of_wp Tryz.func60 rfl trivial ?_ rfl
 simp only [Tryz.ntmps60, List.size_toArray, List.length_cons, List.length_nil, Nat.reduceAdd, Nat.reduceSub, Array.replicate_succ, Array.replicate_zero, List.push_toArray, List.append_toArray, List.nil_append, List.cons_append]
 gi_wp2
 refine ⟨trivial, ?_⟩
 have H : CallsIn .wide (n - 1) Tryz.prog 105 #[.string (ofL x), .string ⟨#[46]⟩, .int .i64 0] w fun e w' => e = .returned (.func (.func 169) #[] #[.pointer (some ⟨w.heap.size + 1, 0, none⟩), .pointer (some ⟨w.heap.size, 0, none⟩), .pointer (some ⟨w.heap.size + 2, 0, none⟩)]) ∧
   w' = ((w.alloc (.cells #[.string (ofL x)] 9)).alloc (.cells #[.string ⟨#[46]⟩] 9)).alloc (.cells #[.int .i64 0] 3) := by
  refine callsIn_of_wp Tryz.func105 rfl trivial ?_ rfl
  simp only [Tryz.ntmps105, List.size_toArray, List.length_cons, List.length_nil, Nat.reduceAdd, Nat.reduceSub, Array.replicate_succ, Array.replicate_zero, List.push_toArray, List.append_toArray, List.nil_append, List.cons_append]
  gi_wp2
  go_ret
  exact ⟨rfl, rfl⟩
 refine H.mono ?_
 rintro e w1 ⟨rfl, rfl⟩
 gi_wp2
 go_ret
 exact ⟨rfl, rfl⟩
end Go.Proofs.YtekpefcggikcbaaGreatDoor
