/- LexKeywords: the walk. -/
import Derived.Test.YtolanmdckdjfeaaLexKwF
import Derived.Test.YtolanmdckdjfeaaLaw
import Derived.Test.YtolanmdckdjfeaaLexRune
import Derived.Deep.Cut
import Derived.Deep.QuietTactic
import Derived.BigQuiet
namespace Go.Proofs.Ytolanmdckdjfeaa
open Go.RowKit

set_option maxRecDepth 100000 in
set_option maxHeartbeats 1000000 in
theorem kw_walk (n t : Nat) (w : World) (hn : n < 256) (ht : t < 256) : Calls Try.prog 9 #[.int .u8 (n : Int), .int .u8 (t : Int)] w (Ok w) := by
  have hjk : n % 28 < kws.length := Nat.mod_lt _ (by decide)
  obtain ⟨k, hk⟩ : ∃ k, kws[n % 28]? = some k := ⟨kws[n % 28], List.getElem?_eq_getElem hjk⟩
  obtain ⟨f1, f2, f3, f4, f6, f7, f8, f9⟩ := kw_facts k (List.mem_of_getElem? hk)
  obtain ⟨c, hc26⟩ : ∃ c, c = t % 26 := ⟨_, rfl⟩
  obtain ⟨d, hd⟩ : ∃ d, d = 97 + c := ⟨_, rfl⟩
  have f5 := kw_longer k (List.mem_of_getElem? hk) c (by omega)
  rw [← hd] at f5
  have e26 : (t : Int) % 26 = (c : Int) := by omega
  have e97 : 97 + (c : Int) = (d : Int) := by omega
  have hcl : c < 26 := by omega
  have hdl : d < 128 := by omega
  clear hc26 hd
  have HK := Lib.hid hk
  have F1 := Lib.hid f1
  have F2 := Lib.hid f2
  have F3 := Lib.hid f3
  have F4 := Lib.hid f4
  have F5 := Lib.hid f5
  clear f1 f2 f3 f4 f5 hk
  obtain ⟨s, hs⟩ : ∃ s, s = ofL k := ⟨_, rfl⟩
  obtain ⟨u, hu⟩ : ∃ u, u = ofL [UInt8.ofNat d] := ⟨_, rfl⟩
  obtain ⟨x, hx⟩ : ∃ x, nxt k = x := ⟨_, rfl⟩
  obtain ⟨y, hy⟩ : ∃ y, x = y + 32 := ⟨x - 32, by omega⟩
  have hsz : s.size = k.length := by rw [hs, ofL_size]
  have hus : u.size = 1 := by rw [hu, ofL_size]; rfl
  have hs2 : 2 ≤ s.size := by omega
  have hs16 : s.size ≤ 16 := by omega
  have hu1 : u.size ≤ 1 := by omega
  have h0s : 0 < s.size := by omega
  have hs0 : (s[0]'h0s).toNat = x := by
    have e : s[0]'h0s = k[0]'(by omega) := by subst hs; exact ofL_get k 0 (by omega)
    rw [e, ← hx, ← nxt_at (k := 0) (by omega), List.drop_zero]
  have hlong := Lib.hid (show s ++ u ++ { data := #[120] } = ofL (k ++ [UInt8.ofNat d] ++ [120]) by
    rw [hs, hu, ofL_append]; exact ofL_append _ [120])
  have hup := Lib.hid (show ofL [UInt8.ofNat y] ++ s.extract 1 s.size = ofL (UInt8.ofNat (nxt k - 32) :: k.tail) by
    rw [hs, ofL_extract, ofL_append, ofL_size, List.take_of_length_le (by simp), hx, hy, Nat.add_sub_cancel, List.drop_one]
    rfl)
  have hyy : IntKind.u8.wrap ((x : Int) - 32) = (y : Int) := by rw [hy, IntKind.wrap_u8]; omega
  have hy128 : y < 128 := by omega
  have hx2 : 97 ≤ x := by omega
  have hx3 : x ≤ 122 := by omega
  have HS := Lib.hid hs
  have HU := Lib.hid hu
  clear hs hu hx hy hsz hus f6 f7 f8 f9
  go_enter Try.func9, Try.ntmps9
  go_wp2_with fail
  refine (awake_any _).mono ?_; rintro e w1 ⟨rfl, hb1⟩
  have HB1 := Lib.hid hb1
  clear hb1
  go_wp2_with fail
  refine (keywords_any _).mono ?_; rintro e w2 ⟨rfl, rfl⟩
  have HB2 := Lib.hid (HB1.out.alloc HB1.out.size (.cells kwCells 9))
  have hc : (w1.alloc (.cells kwCells 9)).cell? ⟨w1.heap.size, n % 28, none⟩ = some (.string s) := by
    rw [cell_of_row _ w1.heap.size (n % 28) _ _ _ (heap_alloc_new w1 _)]
    unfold kwCells
    rw [List.getElem?_toArray, List.getElem?_map, HK.out, HS.out]
    rfl
  generalize hw2 : w1.alloc (.cells kwCells 9) = w2 at *
  clear hw2
  have hr1 := rune_str d hdl w2
  rw [← HU.out] at hr1
  go_wp2_with fail
  refine (tokens_at s k HS.out _ _ _ F4.out _).mono ?_
  rintro e w3 ⟨v, rfl, ht, hb3⟩
  have HB3 := Lib.hid (HB2.out.trans (hb3.mono HB2.out.size))
  obtain ⟨ad, cp, rfl, hcp, a0, a1, a2, a3⟩ := toks_cell ht 0 (by simp)
  have A0 : w3.cell? ad = some (.int .i64 1) := a0
  have A1 : w3.cell? ⟨ad.block, ad.off + 1, none⟩ = some (.string s) := by rw [HS.out]; exact a1
  have A2 : w3.cell? ⟨ad.block, ad.off + 2, none⟩ = some (.int .i64 0) := a2
  have A3 : w3.cell? ⟨ad.block, ad.off + 3, none⟩ = some (.int .i64 0) := a3
  have hr2 := fun w => rune_str y hy128 w
  clear hr1 hc ht hb3 a0 a1 a2 a3 e26 e97
  go_wp2_with fail
  generalize s ++ u ++ { data := #[120] } = z at *
  have hs1 : 1 ≤ s.size := by omega
  have hy1 : (ofL [UInt8.ofNat y]).size ≤ 1 := by rw [ofL_size]; simp
  have hex : (s.extract 1 s.size).size ≤ 16 := by rw [ByteArray.size_extract]; omega
  go_quiet ((first | (go_at_call 15; exact Calls.quiet_of_same (isName_at s k HS.out true F1.out _)) | (go_at_call 17; with_reducible exact Calls.quiet_of_same (isWord_at s k HS.out false F2.out _)) | (go_at_call 17; with_reducible exact Calls.quiet_of_same (isWord_at z _ hlong.out true F5.out _)) | (go_at_call 17; exact Calls.quiet_of_same (isWord_at _ _ hup.out true F3.out _))))
  go_wp2
  go_ret
  exact ⟨rfl, below_drewN HB3.out nq⟩
end Go.Proofs.Ytolanmdckdjfeaa
