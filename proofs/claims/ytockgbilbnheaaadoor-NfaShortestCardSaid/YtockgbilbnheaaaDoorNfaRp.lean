/- Reversing an automaton: plain facts. -/
import Derived.Test.YtockgbilbnheaaaDoorNfaRb
import Derived.Test.YtockgbilbnheaaaDoorMNfaPt
namespace Go.Proofs.YtockgbilbnheaaaDoor
open Go.RowKit Go.Sort

theorem rvS_mem (fin : List Bool) (k : Nat) (n : Int) : n ∈ rvS fin k ↔ ∃ i : Nat, i < k ∧ n = i ∧ fin[i]?.getD false = true := by
 unfold rvS
 simp only [List.mem_map, List.mem_filter, List.mem_range]
 constructor
 ·rintro ⟨i, ⟨h1, h2⟩, rfl⟩; exact ⟨i, h1, rfl, h2⟩
 ·rintro ⟨i, h1, rfl, h2⟩; exact ⟨i, ⟨h1, h2⟩, rfl⟩
theorem rvF_get (S : Nat) (st : List Int) (k : Nat) : (rvF S st)[k]?.getD false = true ↔ k < S ∧ (k : Int) ∈ st := by
 by_cases h : k < S <;> simp [rvF, h]
theorem rvS_asc (fin : List Bool) (k : Nat) : (rvS fin k).Pairwise (· < ·) := by
 unfold rvS
 exact List.pairwise_map.2 ((List.pairwise_lt_range.filter _).imp fun h => by omega)
theorem rvA_mem {ar : List Ac} {x y z : Int} : (x, y, z) ∈ rvA ar ↔ (z, y, x) ∈ ar := by
 unfold rvA
 rw [List.mem_map]
 constructor
 ·rintro ⟨⟨a, b, c⟩, h, e⟩
  simp only [Prod.mk.injEq] at e
  obtain ⟨rfl, rfl, rfl⟩ := e
  exact h
 ·intro h
  exact ⟨_, h, rfl⟩
theorem srtA_mem {l : List Ac} {x : Ac} : x ∈ srtA l ↔ x ∈ l := (srtA_perm l).mem_iff
theorem rvA_rvA (ar : List Ac) : rvA (rvA ar) = ar := by unfold rvA; rw [List.map_map]; exact List.map_id'' (fun _ => rfl) ar
theorem srt_nodup {l : List Ac} (h : Srt l) : l.Nodup := h.imp fun {x y} hxy e => by
 rw [e, cmpA_neg] at hxy
 unfold LtA at hxy; omega
theorem rvA_nodup {l : List Ac} (h : l.Nodup) : (rvA l).Nodup := by
 unfold rvA
 refine List.pairwise_map.2 (h.imp fun {x y} hne e => hne ?_)
 obtain ⟨a, b, c⟩ := x
 obtain ⟨a', b', c'⟩ := y
 simp only [Prod.mk.injEq] at e
 obtain ⟨rfl, rfl, rfl⟩ := e
 rfl
theorem srtA_srt {l : List Ac} (h : l.Nodup) : Srt (srtA l) := by
 have h2 : (srtA l).Nodup := (srtA_perm l).nodup_iff.2 h
 have h3 := (srtA_sorted l).and h2
 refine h3.imp fun {x y} hxy => ?_
 rw [cmpA_neg]
 obtain ⟨g1, g2⟩ := hxy
 refine Classical.byContradiction fun g3 => g2 (parA x y ?_ ?_)
 ·exact (ltA_false x y).2 g3
 ·exact (ltA_false y x).2 g1
theorem srt_uniq {a b : List Ac} (ha : Srt a) (hb : Srt b) (h : a.Perm b) : a = b :=
 h.eq_of_pairwise (fun x y _ _ h1 h2 => by
  rw [cmpA_neg] at h1 h2
  unfold LtA at h1 h2; omega) ha hb
section
variable {S : Nat} {st : List Int} {fin : List Bool} {ar : List Ac}
theorem VN.rev (h : VN S st fin ar) : VN S (rvS fin S) (rvF S st) (srtA (rvA ar)) := by
 have hm : ∀ x ∈ srtA (rvA ar), (x.2.2, x.2.1, x.1) ∈ ar := fun x hx => rvA_mem.1 (srtA_mem.1 hx)
 refine ⟨h.few, rvF_len S st, ⟨srtA_srt (rvA_nodup (srt_nodup h.va.srt)), fun x hx => h.va.to _ (hm x hx), fun x hx => h.va.lt (x.2.2, x.2.1, x.1) (hm x hx), fun x hx => h.va.fr _ (hm x hx), by rw [srtA_len, rvA_len]; exact h.va.few⟩, fun x hx => ?_, rvS_asc fin S⟩
 obtain ⟨i, h1, rfl, -⟩ := (rvS_mem fin S x).1 hx
 omega
theorem rev_st (h : VN S st fin ar) : rvS (rvF S st) S = st := by
 refine asc_uniq (rvS_asc _ _) h.asc fun c => ?_
 rw [rvS_mem]
 constructor
 ·rintro ⟨i, h1, rfl, h2⟩
  exact ((rvF_get S st i).1 h2).2
 ·intro hc
  have hb := h.bds c hc
  refine ⟨c.toNat, by omega, by omega, (rvF_get S st _).2 ⟨by omega, ?_⟩⟩
  rwa [Int.toNat_of_nonneg hb.1]
theorem rev_fin (h : VN S st fin ar) : rvF S (rvS fin S) = fin := by
 apply List.ext_getElem
 ·rw [rvF_len, h.fins]
 ·intro i h1 h2
  have hS : i < S := by rw [rvF_len] at h1; exact h1
  have e := rvF_get S (rvS fin S) i
  rw [List.getElem?_eq_getElem h1, Option.getD_some, rvS_mem] at e
  rw [Bool.eq_iff_iff, e]
  constructor
  ·rintro ⟨-, j, -, hj, h3⟩
   obtain rfl : i = j := by omega
   rwa [List.getElem?_eq_getElem h2, Option.getD_some] at h3
  ·intro h3
   exact ⟨hS, i, hS, rfl, by rw [List.getElem?_eq_getElem h2, Option.getD_some]; exact h3⟩
theorem rev_ar (h : VN S st fin ar) : srtA (rvA (srtA (rvA ar))) = ar := by
 refine srt_uniq h.rev.rev.va.srt h.va.srt ((srtA_perm _).trans ?_)
 have := (srtA_perm (rvA ar)).map fun x : Ac => (x.2.2, x.2.1, x.1)
 exact this.trans (by rw [show (rvA ar).map (fun x : Ac => (x.2.2, x.2.1, x.1)) = rvA (rvA ar) from rfl, rvA_rvA])
theorem rev_acc (h : VN S st fin ar) (word : List Int) : AccP st fin ar word ↔ AccP (rvS fin S) (rvF S st) (srtA (rvA ar)) word.reverse := by
 refine acc_rev h (fun n => ?_) (fun k => ?_) (fun x y z => ?_) word
 ·rw [rvS_mem]
  constructor
  ·rintro ⟨i, _, h2, h3⟩; exact ⟨i, h2, h3⟩
  ·rintro ⟨i, h2, h3⟩
   refine ⟨i, ?_, h2, h3⟩
   rw [← h.fins]
   refine Classical.byContradiction fun g => ?_
   rw [List.getElem?_eq_none (by omega)] at h3
   cases h3
 ·rw [rvF_get]
  exact ⟨fun g => g.2, fun g => ⟨by have := h.bds _ g; omega, g⟩⟩
 ·rw [srtA_mem, rvA_mem]
end
end Go.Proofs.YtockgbilbnheaaaDoor
