/- Layer 9: the contract of the reference's Tokens. -/
import Derived.Test.YtolanmdckdjfeaaLexRx
import Derived.Test.YtolanmdckdjfeaaLexSame
import Derived.Test.YtolanmdckdjfeaaLexTok
namespace Go.Proofs.Ytolanmdckdjfeaa
open Go.RowKit

def RoRel (w : World) (l : List UInt8) (gk : Nat) (v i : Value) (wr : World) : Prop :=
  ∃ (k : Nat) (acc : List Tok), k ≤ l.length ∧ l.length ≤ gk + k ∧ acc.length ≤ k ∧ i = .int .i64 (k : Int) ∧ Hid (Below w.heap.size w wr) ∧ Hid (wr.ownsRow w.heap.size 38 4 v acc.length (acc.flatMap tcells)) ∧
    Hid (lxs 0 l = prep acc (lxs k (l.drop k))) ∧ Hid (sk false (l.drop k) = 0)
theorem RBox.made (w : World) (kd v p : Nat) (t : List UInt8) : RBox (w.alloc (.cells #[.int .i64 (kd : Int), .string (ofL t), .int .i64 (v : Int), .int .i64 (p : Int)] 38)) w.heap.size kd t v p := heap_alloc_new w _
theorem RBox.set3 {w : World} {b kd v p : Nat} {t : List UInt8} (h : RBox w b kd t v p) (p' : Nat) : RBox (w.setCell ⟨b, 3, none⟩ (.int .i64 (p' : Int))) b kd t v p' := by
  unfold RBox at h ⊢
  rw [heap_set h]; rfl
set_option maxRecDepth 20000 in
set_option maxHeartbeats 2000000 in
theorem rtokens_any (l : List UInt8) (w : World) : Calls Try.prog 12 #[.string (ofL l)] w (TksPost w (full l)) := by
  obtain ⟨s, hs⟩ : ∃ s, s = ofL l := ⟨_, rfl⟩
  have hsz : s.size = l.length := by rw [hs, ofL_size]
  by_cases hbig : 8000 < l.length
  · have hT := Lib.hid (show full l = ([], 8000, 6) by unfold full; rw [if_pos hbig])
    have hb2 : 8000 < s.size := by omega
    rw [← hs]
    clear hs hsz hbig
    go_enter Try.func12, Try.ntmps12
    go_wp2
    refine bodyPost_ret (v := .tuple #[.slice none 0 0, .int .i64 8000, .int .i64 6]) (by simp [results, Try.results12, go_sem]) rfl ?_
    exact TksPost.mk hT.out rfl (Toks.nil _) (Below.refl _ _)
  · have hT := Lib.hid (show full l = lxs 0 l by unfold full; rw [if_neg hbig])
    have hb2 : ¬ 8000 < s.size := by omega
    have hroom : l.length ≤ 8000 := by omega
    rw [← hs]
    have HS := Lib.hid hs
    have HZ := Lib.hid hsz
    clear hs hsz hbig
    go_enter Try.func12, Try.ntmps12
    go_wp2_with fail
    refine (rskip_any s l HS.out 0 (by omega) hroom _).mono ?_; rintro e w1 ⟨rfl, rfl⟩
    obtain ⟨k0, hk0⟩ : ∃ k0, k0 = 0 + sk false (l.drop 0) := ⟨_, rfl⟩
    rw [← hk0]
    have HK0 := Lib.hid hk0
    clear hk0
    go_wp2
    go_loopg [5, 6, 7, 8, 9] (l.length) (fun gk v i _ _ _ wr => RoRel w l gk v i wr)
    case atStart =>
      refine ⟨k0, [], by rw [HK0.out, List.drop_zero]; have := sk_le false l; omega, by omega, by simp, rfl, Below.refl _ _, World.ownsRow_nil _ _ _ _, ?_, ?_⟩
      · unfold Hid
        rw [prep_nil, HK0.out, Nat.zero_add, List.drop_zero]
        have := lxs_skip 0 l
        rwa [Nat.zero_add] at this
      · unfold Hid
        rw [HK0.out, Nat.zero_add, List.drop_zero]
        exact sk_idem false l
    case round =>
      obtain ⟨k, acc, hkl, hgk, hak, rfl, HB, HV, HL, HK⟩ := hrel
      by_cases hend : k < s.size
      · have hkl2 : k < l.length := by have := HZ.out; omega
        have HEX := Lib.hid (show s.extract k s.size = ofL (l.drop k) by rw [HS.out, ofL_extract, ofL_size, List.take_of_length_le (by simp)])
        have hks : k ≤ s.size := by omega
        have hsz := HB.out.size
        go_wp2_with fail
        refine (rtoken_any _ (l.drop k) HEX.out (by rw [List.length_drop]; omega) (by rw [List.length_drop]; omega) _).mono ?_
        intro e w3 hp
        cases htk : tk (l.drop k) with
        | err x =>
          rw [htk] at hp
          obtain ⟨rfl, hb3⟩ := hp
          have he := Lib.hid (show full l = ([], k, x) by
            rw [hT.out, HL.out, lxs_err (e := x) (by rw [HK.out, List.length_drop]; omega) (by rw [HK.out, List.drop_zero]; exact htk), HK.out]
            have := tk_errn htk
            simp [prep, this])
          have hx0 : ((x : Int) != 0) = true := by have := tk_errn htk; simp; omega
          have HB3 := Lib.hid (HB.out.trans (hb3.mono HB.out.size))
          clear htk hb3
          unfold tokV
          have hbe := Lib.hid (HB3.out.alloc HB3.out.size (.cells #[.int .i64 0, .string (ofL []), .int .i64 0, .int .i64 0] 38))
          go_wp2_with fail
          refine bodyPost_ret (v := .tuple #[.slice none 0 0, .int .i64 (k : Int), .int .i64 (x : Int)]) (by simp [results, Try.results12, go_sem]) rfl ?_
          exact TksPost.mk he.out rfl (Toks.nil _) hbe.out
        | ok kd t v n =>
          rw [htk] at hp
          obtain ⟨rfl, hb3⟩ := hp
          have HX := Lib.hid htk
          have htl := tk_len htk
          rw [List.length_drop] at htl
          obtain ⟨hn1, hn2⟩ := htl
          have HB3 := Lib.hid (HB.out.trans (hb3.mono HB.out.size))
          have HV3 := Lib.hid (own_keepK HV.out fun a ha _ => hb3.block a ha)
          have hz3 := HB3.out.size
          clear htk hb3
          unfold tokV
          have hVW := Lib.hid (HV3.out.alloc (.cells #[.int .i64 (kd : Int), .string (ofL t), .int .i64 (v : Int), .int .i64 (k : Int)] 38))
          have hBW : Hid (Below w.heap.size w (w3.alloc (.cells #[.int .i64 (kd : Int), .string (ofL t), .int .i64 (v : Int), .int .i64 (k : Int)] 38))) := HB3.out.alloc hz3 _
          have hzW : Hid ((w3.alloc (.cells #[.int .i64 (kd : Int), .string (ofL t), .int .i64 (v : Int), .int .i64 (k : Int)] 38)).heap.size = w3.heap.size + 1) := by unfold Hid; simp
          have hBs : w.heap.size ≤ (w3.alloc (.cells #[.int .i64 (kd : Int), .string (ofL t), .int .i64 (v : Int), .int .i64 (k : Int)] 38)).heap.size := hBW.out.size
          have hacc : (acc.length + 1) * 40 ≤ 140737488355328 := by omega
          obtain ⟨q, hq⟩ : ∃ q, q = k + n := ⟨_, rfl⟩
          have ecast : Hid ((k : Int) + (n : Int) = (q : Int)) := by unfold Hid; omega
          have hkn : (k : Int) + (n : Int) ≤ 8000 := by omega
          have hql : q ≤ l.length := by omega
          have HQ := Lib.hid hq
          clear hq
          go_wp2_with (at_builtin; refine app4 rfl _ _ 27 rfl 38 _ 40 info_rtok Try.underlying27 rfl w.heap.size _ _ _ rfl hVW.out _ _ _ _ (by rw [hzW.out]; rfl) (by simp [Value.oneCell']) hacc (by omega) hBs ?_; intro v' w8 hown8 hf8; have hV8 := Lib.hid hown8; have hF8 := Lib.hid hf8; clear hown8 hf8)
          rw [ecast.out]
          have hB8 := Lib.hid (hBW.out.trans (hF8.out.below hBs))
          refine (rskip_any s l HS.out q hql hroom _).mono ?_; rintro e w9 ⟨rfl, rfl⟩
          go_wp2
          go_roundg (gk - n)
          case rel =>
            refine ⟨q + sk false (l.drop q), acc ++ [⟨kd, t, v, k⟩], ?_, by have := HQ.out; omega, by have := HQ.out; simp; omega, rfl, hB8, ?_, ?_, ?_⟩
            · have := sk_le false (l.drop q)
              rw [List.length_drop] at this; omega
            · have h9 := hV8.out
              rw [List.length_append, List.flatMap_append]
              exact h9
            · unfold Hid
              rw [HL.out, lxs_ok (k := kd) (t := t) (v := v) (m := n) (by rw [HK.out, List.length_drop]; omega) (by rw [HK.out, List.drop_zero]; exact HX.out), HK.out, prep_push]
              simp only [Nat.add_zero, List.drop_drop]
              rw [← HQ.out, lxs_skip q, List.drop_drop]
            · unfold Hid
              rw [← List.drop_drop]
              exact sk_idem false _
          case measure => omega
      · have he := Lib.hid (show full l = (acc, 0, 0) by
          rw [hT.out, HL.out, lxs_end (by rw [HK.out, List.length_drop]; have := HZ.out; omega)]
          simp [prep])
        go_wp2
        refine bodyPost_ret (v := .tuple #[u5, .int .i64 0, .int .i64 0]) (by simp [results, Try.results12, go_sem]) rfl ?_
        exact TksPost.mk he.out rfl (Toks.of_own HV.out) HB.out
end Go.Proofs.Ytolanmdckdjfeaa
