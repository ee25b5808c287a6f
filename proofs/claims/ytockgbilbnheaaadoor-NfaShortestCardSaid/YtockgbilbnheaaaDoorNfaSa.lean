/- slices.SortFunc at arcs with nfa's compare. -/
import Derived.Shelf.SlSortCmp.NoneTotal
import Derived.Test.YtockgbilbnheaaaDoorLaySrtA
import Derived.Test.YtockgbilbnheaaaDoorNfaCg
import Derived.Test.YtockgbilbnheaaaDoorNfaOwn
namespace Go.Proofs.YtockgbilbnheaaaDoor
open Go.RowKit Go.Sort Go.Shelf

theorem ltA_iff (x y : Ac) : ltOf cmpA x y = true ↔ LtA x y := by
 unfold ltOf
 rw [decide_eq_true_iff, cmpA_neg]
theorem ltA_false (x y : Ac) : ltOf cmpA x y = false ↔ ¬ LtA x y := by
 rw [← ltA_iff, Bool.not_eq_true]
theorem swoA : SWO (ltOf cmpA) where
 irrefl x := by rw [ltA_false]; unfold LtA; omega
 trans x y z h1 h2 := by rw [ltA_iff] at *; unfold LtA at *; omega
 ntrans x y z h1 h2 := by rw [ltA_false] at *; unfold LtA at *; omega
theorem parA (x y : Ac) (h1 : ltOf cmpA x y = false) (h2 : ltOf cmpA y x = false) : x = y := by
 rw [ltA_false] at h1 h2
 obtain ⟨a, b, c⟩ := x
 obtain ⟨a', b', c'⟩ := y
 unfold LtA at h1 h2
 simp only [Prod.mk.injEq]
 dsimp only at h1 h2
 omega
theorem cmp_lays (blk off size : Nat) (w : World) : CmpLays Tryd.prog 45 #[] acells 3 cmpA blk off size w :=
 fun _ _ _ _ x y => compare_grow x y _
/-- The arcs in order. -/
def srtA (l : List Ac) : List Ac := l.mergeSort fun x y => !(ltOf cmpA) y x
theorem srtA_perm (l : List Ac) : (srtA l).Perm l := List.mergeSort_perm _ _
theorem srtA_sorted (l : List Ac) : (srtA l).Pairwise fun x y => ¬ LtA y x := by
 have h := List.pairwise_mergeSort (le := fun x y => !(ltOf cmpA) y x) (fun a b c h1 h2 => by
  simp only [Bool.not_eq_true', ltA_false] at *
  unfold LtA at *; omega) (fun a b => by
  simp only [Bool.or_eq_true, Bool.not_eq_true', ltA_false]
  unfold LtA; omega) l
 refine h.imp fun {x y} hxy => ?_
 simpa only [Bool.not_eq_true', ltA_false] using hxy
theorem grownBy_srt {w : World} {g n : Nat} {os : Array Obj} (d : Array Ac) : w.grownBy (sortWorldK acells 3 w g 0 n d os) (some g) := by
 refine ⟨rfl, rfl, rfl, by simp [sortWorldK, putRowK], fun k hk hne => ?_⟩
 unfold sortWorldK putRowK
 rw [heap_grow_old _ _ (by simpa using hk)]
 have : g ≠ k := fun e => hne (by rw [e])
 simp [putRow, mapBlock, Sort.ahead, Array.getElem?_modify, this]
theorem holds_own {w : World} {B g cap : Nat} {l : List Ac} (h : w.ownsRow B 52 3 (.slice (some ⟨g, 0, none⟩) l.length cap) l.length (l.flatMap acells)) : HoldsK acells 3 w g 0 l.toArray := by
 have ha := acs_own h
 intro j hj
 have hj3 : j < l.length * 3 := by simpa using hj
 refine ⟨?_, h.frozenAt _⟩
 rw [get_flatK _ _ _ _ (by simpa using hj3), Nat.zero_add]
 have hk : j / 3 < l.length := by omega
 obtain ⟨ad, e, _, _, y0, y1, y2⟩ := ha.at (j / 3) hk
 cases e
 have e3 : (⟨g, 0, none⟩ : Addr).add (j / 3 * 3) = ⟨g, j / 3 * 3, none⟩ := by unfold Addr.add; split <;> simp_all
 rw [e3] at y0 y1 y2
 have el : l.toArray[j / 3]! = l[j / 3] := by simp [hk]
 obtain ⟨x, hx⟩ : ∃ x, x = l[j / 3] := ⟨_, rfl⟩
 rw [← hx] at y0 y1 y2 el
 rw [el]
 have hm : j % 3 = 0 ∨ j % 3 = 1 ∨ j % 3 = 2 := by omega
 rcases hm with hm | hm | hm
 ·rw [hm]
  rw [show j / 3 * 3 = j by omega] at y0
  exact y0
 ·rw [hm]
  rw [show j / 3 * 3 + 1 = j by omega] at y1
  exact y1
 ·rw [hm]
  rw [show j / 3 * 3 + 2 = j by omega] at y2
  exact y2
theorem sorta_any {w : World} {B : Nat} {v : Value} {l : List Ac} (h : w.ownsRow B 52 3 v l.length (l.flatMap acells)) (hl : l.length ≤ 1000000000) :
  Calls Tryd.prog 63 #[v, .func (.func 45) #[] #[]] w fun e w' => e = .returned (.tuple #[]) ∧ Acs w' v (srtA l) ∧ w.grownBy w' v.ownBlock := by
 have hlen : (srtA l).length = l.length := (srtA_perm l).length_eq
 rcases h.2 with ⟨rfl, h0⟩ | ⟨g, cap, cur, rfl, _, hg, hnc, _⟩
 ·obtain rfl := List.eq_nil_of_length_eq_zero h0
  refine (AnyF.slices_SortFunc_none laysSortA none 0 _ w).mono ?_
  rintro e w' ⟨rfl, rfl⟩
  exact ⟨rfl, .inl ⟨rfl, List.eq_nil_of_length_eq_zero hlen⟩, ⟨rfl, rfl, rfl, Nat.le_refl _, fun _ _ _ => rfl⟩⟩
 ·have hH := holds_own h
  have hblk : g < w.heap.size := lt_of_some hg
  have eg : ∀ args w, (callFunc 45 args).run Tryd.prog w = .ok (.enter 45 args) w := enters_of Tryd.func45 (by kernel_rfl) rfl
  have hcon := AnyQ.slices_SortFunc_total laysSortA 3 Tryd.isAgg52 Tryd.sizeOf52 acells (fun _ => rfl) (fun x v hv => by simp [acells] at hv; rcases hv with rfl | rfl | rfl <;> rfl) cmpA swoA 45 #[] g 0 cap l.toArray w eg (cmp_lays g 0 l.toArray.size w) hH hblk (by simp; omega) parA
  have hcon2 : Calls Tryd.prog 63 #[.slice (some ⟨g, 0, none⟩) l.length cap, .func (.func 45) #[] #[]] w (fun e w' => e = .returned (.tuple #[]) ∧ ∃ n os, w' = sortWorldK acells 3 w g 0 n (srtA l).toArray os) := hcon
  refine hcon2.mono ?_
  rintro e w' ⟨rfl, n, os, rfl⟩
  have hH2 := holdsK_sortWorldK acells 3 w g 0 n l.toArray (srtA l).toArray os hblk hH (by simp [hlen])
  refine ⟨rfl, .inr ⟨⟨g, 0, none⟩, cap, by rw [hlen], by omega, fun j x hj => ?_⟩, grownBy_srt _⟩
  have hjl := (List.getElem?_eq_some_iff.1 hj).1
  have hx := (List.getElem?_eq_some_iff.1 hj).2
  have e3 : (⟨g, 0, none⟩ : Addr).add (j * 3) = ⟨g, j * 3, none⟩ := by unfold Addr.add; split <;> simp_all
  have el : (srtA l).toArray[j]! = x := by simp [hj]
  have c : ∀ c, c < 3 → (sortWorldK acells 3 w g 0 n (srtA l).toArray os).cell? ⟨g, j * 3 + c, none⟩ = some ((acells x)[c]!) := fun c hc => by
   have := (hH2 (j * 3 + c) (by simp; omega)).1
   rw [get_flatK _ _ _ _ (by simp; omega), Nat.zero_add, show (j * 3 + c) / 3 = j by omega, show (j * 3 + c) % 3 = c by omega, el] at this
   exact this
  rw [e3]
  exact ⟨c 0 (by decide), c 1 (by decide), c 2 (by decide)⟩
end Go.Proofs.YtockgbilbnheaaaDoor
