/- Layer 10: the contracts of separated. -/
import Derived.Test.YtpnlojcimeiihaaGreatDoorMSynQ
namespace Go.Proofs.YtpnlojcimeiihaaGreatDoor
open Go.RowKit

section
variable {w w' : World} {g E L K : Nat} {s : St}
theorem info_String : (Tryz.prog.info? 9).map (fun i => (i.zero, i.size, i.bytes)) = some (some (.string ⟨#[]⟩), 1, 16) := by kernel_rfl
set_option maxHeartbeats 2000000 in
theorem sepString_any (p : P Bs) (hp : Dec p) (hK : IsRd K g E L p vS) (mark : Bs) (h : Prs w g E s) (hL : s.r.length ≤ L) (hL8 : L ≤ 8000) :
  Calls Tryz.prog 191 #[.pointer (some ⟨g, 0, none⟩), .string (ofL mark), .func (.func K) #[.pointer (some ⟨g, 0, none⟩)] #[]] w (GotD w g E (sepP E mark p s).2 (.s 1 ((sepP E mark p s).1.flatMap (fun x => [dS x])))) := by
 obtain ⟨R, hR⟩ : ∃ R, sepP E mark p s = R := ⟨_, rfl⟩
 have hlt := h.lt
 have HR := Lib.hid hR
 have H := Lib.hid h
 have hE := hK.1
 have hK2 := Lib.hid hK.2
 have HP := Lib.hid hp
 have HT := Lib.hid (fun w s (h : Prs w g E s) => ptake_any h mark)
 rw [hR]
 obtain ⟨y, hy⟩ : ∃ y, ofL mark = y := ⟨_, rfl⟩
 rw [hy] at HT ⊢
 clear h hR hK hp hy
 have hL' := Lib.hid hL
 go_enter Tryz.func191, Tryz.ntmps191
 go_wp2_with fail
 refine (hK2.out _ _ hL'.out H.out).mono ?_; rintro e w1 ⟨rfl, P1, O1⟩
 have P1' := Lib.hid P1
 have O1' := Lib.hid O1
 obtain ⟨x, hx⟩ : ∃ x, (p s).1 = x := ⟨_, rfl⟩
 obtain ⟨s1, hs1⟩ : ∃ s1, (p s).2 = s1 := ⟨_, rfl⟩
 rw [hx]
 rw [hs1] at P1'
 have HB1 := Lib.hid (Bld.lit w1 9 #[.string (ofL x)] ((fun x => [dS x]) x) 1 rfl (LiesL.cons (.c _ rfl) (LiesL.nil _ _)) O1.size)
 have HS1 := Lib.hid (show R.1 = [x] ++ (sepL E mark p s1.r.length s1).1 by rw [← HR.out, ← hx, ← hs1]; rfl)
 have HS2 := Lib.hid (show R.2 = (sepL E mark p s1.r.length s1).2 by rw [← HR.out, ← hs1]; rfl)
 have hl1 := Lib.hid (show s1.r.length ≤ L by rw [← hs1]; exact Nat.le_trans (HP.out s) hL'.out)
 clear P1 O1 hx hs1
 unfold vS
 go_wp2_with fail
 go_loopg [7, 11, 12, 13, 14, 15, 16, 17, 18] (s1.r.length) (fun gk v _ _ _ _ _ _ _ _ wr => SepRel w g E L w.heap.size 9 1 mark p (fun x => [dS x]) R gk v wr)
 case atStart =>
  refine ⟨[x], s1, Nat.le_refl _, hl1.out, ?_, ?_, P1'.out.below ((Below.refl w1.heap.size w1).alloc (Nat.le_refl _) _) P1'.out.lt, O1'.out.alloc _, HS1, HS2⟩
  ·have := hl1.out; simp; omega
  ·exact HB1
 case round =>
  clear P1' O1' HB1 HS1 HS2 hl1 H
  obtain ⟨acc, s2, hr2, hgk, hacc, HB, HS, HO, HE1, HE2⟩ := hrel
  cases ht : (takeP E mark s2).1 with
  | false =>
   have HX := Lib.hid (show R = (acc, s2) by
    have h1 := HE1.out
    have h2 := HE2.out
    rw [sepL_no _ ht] at h1 h2
    rw [List.append_nil] at h1
    exact Prod.ext h1 h2)
   have hts := Lib.hid (show (takeP E mark s2).2 = s2 from takeP_no ht)
   have HT2 := Lib.hid ht
   clear ht
   go_wp2_with fail
   refine (HT.out _ _ HS.out).mono ?_; rintro e w2 ⟨rfl, P2, O2⟩
   rw [HT2.out]
   rw [hts.out] at P2
   have P2' := Lib.hid P2
   have O2' := Lib.hid (HO.out.trans O2)
   have B2' := Lib.hid (HB.out.only O2 hlt)
   clear P2 O2
   go_wp2_with fail
   go_ret
   refine ⟨_, rfl, ?_, by rw [HX.out]; exact P2'.out, O2'.out⟩
   rw [HX.out]
   exact B2'.out.lies
  | true =>
   obtain ⟨n, rfl⟩ : ∃ n, gk = n + 1 := ⟨gk - 1, by have := takeP_yes ht; omega⟩
   obtain ⟨s3, hs3⟩ : ∃ s3, (takeP E mark s2).2 = s3 := ⟨_, rfl⟩
   have hl3 := Lib.hid (show s3.r.length ≤ n by have := takeP_yes ht; rw [hs3] at this; omega)
   have HE3 := Lib.hid (show R.1 = acc ++ (p s3).1 :: (sepL E mark p n (p s3).2).1 by have h1 := HE1.out; rw [sepL_yes _ ht, hs3] at h1; exact h1)
   have HE4 := Lib.hid (show R.2 = (sepL E mark p n (p s3).2).2 by have h1 := HE2.out; rw [sepL_yes _ ht, hs3] at h1; exact h1)
   have HT2 := Lib.hid ht
   have HS3 := Lib.hid hs3
   clear ht hs3 HE1 HE2
   go_wp2_with fail
   refine (HT.out _ _ HS.out).mono ?_; rintro e w2 ⟨rfl, P2, O2⟩
   rw [HT2.out]
   rw [HS3.out] at P2
   have P2' := Lib.hid P2
   have O2' := Lib.hid (HO.out.trans O2)
   have B2' := Lib.hid (HB.out.only O2 hlt)
   clear P2 O2
   go_wp2_with fail
   refine (hK2.out _ _ (by have := hl3.out; omega) P2'.out).mono ?_; rintro e w1 ⟨rfl, P1, O1⟩
   obtain ⟨x3, hx3⟩ : ∃ x3, (p s3).1 = x3 := ⟨_, rfl⟩
   obtain ⟨s4, hs4⟩ : ∃ s4, (p s3).2 = s4 := ⟨_, rfl⟩
   rw [hx3] at HE3
   rw [hs4] at HE3 HE4 P1
   rw [hx3]
   have hl4 := Lib.hid (show s4.r.length ≤ n by rw [← hs4]; exact Nat.le_trans (HP.out s3) hl3.out)
   have P3' := Lib.hid P1
   have O3' := Lib.hid (O2'.out.trans O1)
   have B3' := Lib.hid (B2'.out.only O1 hlt)
   clear P1 O1 hx3 hs4
   unfold vS
   have hsz3 : w.heap.size ≤ w1.heap.size := O3'.out.size
   have hby : (acc.length + 1) * 16 ≤ 140737488355328 := by omega
   go_wp2_with (at_builtin; refine appD rfl _ _ 45 rfl 9 _ 1 16 info_String rfl (by decide) Tryz.underlying45 w.heap.size u7 _ _ rfl B3'.out _ ((fun x => [dS x]) x3) rfl rfl (LiesL.cons (.c _ rfl) (LiesL.nil _ _)) hby hsz3 ?_ (by decide); intro v' w8 hown8 hg8; have hV8 := Lib.hid hown8; have hF8 := Lib.hid (grown_below B3'.out hg8 hsz3); clear hown8 hg8)
   go_roundg n
   case rel =>
    refine ⟨acc ++ [x3], s4, hl4.out, by omega, by simp; omega, ?_, P3'.out.below hF8.out hlt, ?_, ?_, HE4⟩
    ·have := hV8.out
     unfold Hid
     rw [List.length_append, List.flatMap_append]
     simpa using this
    ·exact O3'.out.to hF8.out
    ·unfold Hid; rw [HE3.out, List.append_assoc]; rfl
   case measure => omega
theorem info_Field : (Tryz.prog.info? 158).map (fun i => (i.zero, i.size, i.bytes)) = some (some (.agg #[.string ⟨#[]⟩, .int .i64 0, .int .i64 0, .int .i64 0]), 4, 40) := by kernel_rfl
set_option maxHeartbeats 2000000 in
theorem sepField_any (p : P Fd) (hp : Dec p) (hK : IsRd K g E L p vF) (mark : Bs) (h : Prs w g E s) (hL : s.r.length ≤ L) (hL8 : L ≤ 8000) :
  Calls Tryz.prog 193 #[.pointer (some ⟨g, 0, none⟩), .string (ofL mark), .func (.func K) #[.pointer (some ⟨g, 0, none⟩)] #[]] w (GotD w g E (sepP E mark p s).2 (.s 4 ((sepP E mark p s).1.flatMap dF))) := by
 obtain ⟨R, hR⟩ : ∃ R, sepP E mark p s = R := ⟨_, rfl⟩
 have hlt := h.lt
 have HR := Lib.hid hR
 have H := Lib.hid h
 have hE := hK.1
 have hK2 := Lib.hid hK.2
 have HP := Lib.hid hp
 have HT := Lib.hid (fun w s (h : Prs w g E s) => ptake_any h mark)
 rw [hR]
 obtain ⟨y, hy⟩ : ∃ y, ofL mark = y := ⟨_, rfl⟩
 rw [hy] at HT ⊢
 clear h hR hK hp hy
 have hL' := Lib.hid hL
 go_enter Tryz.func193, Tryz.ntmps193
 go_wp2_with fail
 refine (hK2.out _ _ hL'.out H.out).mono ?_; rintro e w1 ⟨rfl, P1, O1⟩
 have P1' := Lib.hid P1
 have O1' := Lib.hid O1
 obtain ⟨x, hx⟩ : ∃ x, (p s).1 = x := ⟨_, rfl⟩
 obtain ⟨s1, hs1⟩ : ∃ s1, (p s).2 = s1 := ⟨_, rfl⟩
 rw [hx]
 rw [hs1] at P1'
 have HB1 := Lib.hid (Bld.lit w1 158 #[.string (ofL x.nm), .int .i64 x.k, .int .i64 x.lo, .int .i64 x.hi] (dF x) 4 rfl (LiesL.cons (.c _ rfl) (LiesL.cons (.c _ rfl) (LiesL.cons (.c _ rfl) (LiesL.cons (.c _ rfl) (LiesL.nil _ _))))) O1.size)
 have HS1 := Lib.hid (show R.1 = [x] ++ (sepL E mark p s1.r.length s1).1 by rw [← HR.out, ← hx, ← hs1]; rfl)
 have HS2 := Lib.hid (show R.2 = (sepL E mark p s1.r.length s1).2 by rw [← HR.out, ← hs1]; rfl)
 have hl1 := Lib.hid (show s1.r.length ≤ L by rw [← hs1]; exact Nat.le_trans (HP.out s) hL'.out)
 clear P1 O1 hx hs1
 unfold vF
 go_wp2_with fail
 go_loopg [7, 11, 12, 13, 14, 15, 16, 17, 18] (s1.r.length) (fun gk v _ _ _ _ _ _ _ _ wr => SepRel w g E L w.heap.size 158 4 mark p dF R gk v wr)
 case atStart =>
  refine ⟨[x], s1, Nat.le_refl _, hl1.out, ?_, ?_, P1'.out.below ((Below.refl w1.heap.size w1).alloc (Nat.le_refl _) _) P1'.out.lt, O1'.out.alloc _, HS1, HS2⟩
  ·have := hl1.out; simp; omega
  ·exact HB1
 case round =>
  clear P1' O1' HB1 HS1 HS2 hl1 H
  obtain ⟨acc, s2, hr2, hgk, hacc, HB, HS, HO, HE1, HE2⟩ := hrel
  cases ht : (takeP E mark s2).1 with
  | false =>
   have HX := Lib.hid (show R = (acc, s2) by
    have h1 := HE1.out
    have h2 := HE2.out
    rw [sepL_no _ ht] at h1 h2
    rw [List.append_nil] at h1
    exact Prod.ext h1 h2)
   have hts := Lib.hid (show (takeP E mark s2).2 = s2 from takeP_no ht)
   have HT2 := Lib.hid ht
   clear ht
   go_wp2_with fail
   refine (HT.out _ _ HS.out).mono ?_; rintro e w2 ⟨rfl, P2, O2⟩
   rw [HT2.out]
   rw [hts.out] at P2
   have P2' := Lib.hid P2
   have O2' := Lib.hid (HO.out.trans O2)
   have B2' := Lib.hid (HB.out.only O2 hlt)
   clear P2 O2
   go_wp2_with fail
   go_ret
   refine ⟨_, rfl, ?_, by rw [HX.out]; exact P2'.out, O2'.out⟩
   rw [HX.out]
   exact B2'.out.lies
  | true =>
   obtain ⟨n, rfl⟩ : ∃ n, gk = n + 1 := ⟨gk - 1, by have := takeP_yes ht; omega⟩
   obtain ⟨s3, hs3⟩ : ∃ s3, (takeP E mark s2).2 = s3 := ⟨_, rfl⟩
   have hl3 := Lib.hid (show s3.r.length ≤ n by have := takeP_yes ht; rw [hs3] at this; omega)
   have HE3 := Lib.hid (show R.1 = acc ++ (p s3).1 :: (sepL E mark p n (p s3).2).1 by have h1 := HE1.out; rw [sepL_yes _ ht, hs3] at h1; exact h1)
   have HE4 := Lib.hid (show R.2 = (sepL E mark p n (p s3).2).2 by have h1 := HE2.out; rw [sepL_yes _ ht, hs3] at h1; exact h1)
   have HT2 := Lib.hid ht
   have HS3 := Lib.hid hs3
   clear ht hs3 HE1 HE2
   go_wp2_with fail
   refine (HT.out _ _ HS.out).mono ?_; rintro e w2 ⟨rfl, P2, O2⟩
   rw [HT2.out]
   rw [HS3.out] at P2
   have P2' := Lib.hid P2
   have O2' := Lib.hid (HO.out.trans O2)
   have B2' := Lib.hid (HB.out.only O2 hlt)
   clear P2 O2
   go_wp2_with fail
   refine (hK2.out _ _ (by have := hl3.out; omega) P2'.out).mono ?_; rintro e w1 ⟨rfl, P1, O1⟩
   obtain ⟨x3, hx3⟩ : ∃ x3, (p s3).1 = x3 := ⟨_, rfl⟩
   obtain ⟨s4, hs4⟩ : ∃ s4, (p s3).2 = s4 := ⟨_, rfl⟩
   rw [hx3] at HE3
   rw [hs4] at HE3 HE4 P1
   rw [hx3]
   have hl4 := Lib.hid (show s4.r.length ≤ n by rw [← hs4]; exact Nat.le_trans (HP.out s3) hl3.out)
   have P3' := Lib.hid P1
   have O3' := Lib.hid (O2'.out.trans O1)
   have B3' := Lib.hid (B2'.out.only O1 hlt)
   clear P1 O1 hx3 hs4
   unfold vF
   have hsz3 : w.heap.size ≤ w1.heap.size := O3'.out.size
   have hby : (acc.length + 1) * 40 ≤ 140737488355328 := by omega
   go_wp2_with (at_builtin; refine appD rfl _ _ 71 rfl 158 _ 4 40 info_Field rfl (by decide) Tryz.underlying71 w.heap.size u7 _ _ rfl B3'.out _ (dF x3) rfl rfl (LiesL.cons (.c _ rfl) (LiesL.cons (.c _ rfl) (LiesL.cons (.c _ rfl) (LiesL.cons (.c _ rfl) (LiesL.nil _ _))))) hby hsz3 ?_ (by decide); intro v' w8 hown8 hg8; have hV8 := Lib.hid hown8; have hF8 := Lib.hid (grown_below B3'.out hg8 hsz3); clear hown8 hg8)
   go_roundg n
   case rel =>
    refine ⟨acc ++ [x3], s4, hl4.out, by omega, by simp; omega, ?_, P3'.out.below hF8.out hlt, ?_, ?_, HE4⟩
    ·have := hV8.out
     unfold Hid
     rw [List.length_append, List.flatMap_append]
     simpa using this
    ·exact O3'.out.to hF8.out
    ·unfold Hid; rw [HE3.out, List.append_assoc]; rfl
   case measure => omega
theorem info_Atom : (Tryz.prog.info? 100).map (fun i => (i.zero, i.size, i.bytes)) = some (some (.agg #[.int .i64 0, .string ⟨#[]⟩, .string ⟨#[]⟩, .int .i64 0, .string ⟨#[]⟩, .int .i64 0, .string ⟨#[]⟩, .string ⟨#[]⟩, .int .i64 0]), 9, 112) := by kernel_rfl
set_option maxHeartbeats 2000000 in
theorem sepAtom_any (p : P Am) (hp : Dec p) (hK : IsRd K g E L p vA) (mark : Bs) (h : Prs w g E s) (hL : s.r.length ≤ L) (hL8 : L ≤ 8000) :
  Calls Tryz.prog 196 #[.pointer (some ⟨g, 0, none⟩), .string (ofL mark), .func (.func K) #[.pointer (some ⟨g, 0, none⟩)] #[]] w (GotD w g E (sepP E mark p s).2 (.s 9 ((sepP E mark p s).1.flatMap dA))) := by
 obtain ⟨R, hR⟩ : ∃ R, sepP E mark p s = R := ⟨_, rfl⟩
 have hlt := h.lt
 have HR := Lib.hid hR
 have H := Lib.hid h
 have hE := hK.1
 have hK2 := Lib.hid hK.2
 have HP := Lib.hid hp
 have HT := Lib.hid (fun w s (h : Prs w g E s) => ptake_any h mark)
 rw [hR]
 obtain ⟨y, hy⟩ : ∃ y, ofL mark = y := ⟨_, rfl⟩
 rw [hy] at HT ⊢
 clear h hR hK hp hy
 have hL' := Lib.hid hL
 go_enter Tryz.func196, Tryz.ntmps196
 go_wp2_with fail
 refine (hK2.out _ _ hL'.out H.out).mono ?_; rintro e w1 ⟨rfl, P1, O1⟩
 have P1' := Lib.hid P1
 have O1' := Lib.hid O1
 obtain ⟨x, hx⟩ : ∃ x, (p s).1 = x := ⟨_, rfl⟩
 obtain ⟨s1, hs1⟩ : ∃ s1, (p s).2 = s1 := ⟨_, rfl⟩
 rw [hx]
 rw [hs1] at P1'
 have HB1 := Lib.hid (Bld.lit w1 100 #[.int .i64 x.l.k, .string (ofL x.l.m), .string (ofL x.l.f), .int .i64 x.l.n, .string (ofL x.op), .int .i64 x.r.k, .string (ofL x.r.m), .string (ofL x.r.f), .int .i64 x.r.n] (dA x) 9 rfl (LiesL.cons (.c _ rfl) (LiesL.cons (.c _ rfl) (LiesL.cons (.c _ rfl) (LiesL.cons (.c _ rfl) (LiesL.cons (.c _ rfl) (LiesL.cons (.c _ rfl) (LiesL.cons (.c _ rfl) (LiesL.cons (.c _ rfl) (LiesL.cons (.c _ rfl) (LiesL.nil _ _)))))))))) O1.size)
 have HS1 := Lib.hid (show R.1 = [x] ++ (sepL E mark p s1.r.length s1).1 by rw [← HR.out, ← hx, ← hs1]; rfl)
 have HS2 := Lib.hid (show R.2 = (sepL E mark p s1.r.length s1).2 by rw [← HR.out, ← hs1]; rfl)
 have hl1 := Lib.hid (show s1.r.length ≤ L by rw [← hs1]; exact Nat.le_trans (HP.out s) hL'.out)
 clear P1 O1 hx hs1
 unfold vA
 go_wp2_with fail
 go_loopg [7, 11, 12, 13, 14, 15, 16, 17, 18] (s1.r.length) (fun gk v _ _ _ _ _ _ _ _ wr => SepRel w g E L w.heap.size 100 9 mark p dA R gk v wr)
 case atStart =>
  refine ⟨[x], s1, Nat.le_refl _, hl1.out, ?_, ?_, P1'.out.below ((Below.refl w1.heap.size w1).alloc (Nat.le_refl _) _) P1'.out.lt, O1'.out.alloc _, HS1, HS2⟩
  ·have := hl1.out; simp; omega
  ·exact HB1
 case round =>
  clear P1' O1' HB1 HS1 HS2 hl1 H
  obtain ⟨acc, s2, hr2, hgk, hacc, HB, HS, HO, HE1, HE2⟩ := hrel
  cases ht : (takeP E mark s2).1 with
  | false =>
   have HX := Lib.hid (show R = (acc, s2) by
    have h1 := HE1.out
    have h2 := HE2.out
    rw [sepL_no _ ht] at h1 h2
    rw [List.append_nil] at h1
    exact Prod.ext h1 h2)
   have hts := Lib.hid (show (takeP E mark s2).2 = s2 from takeP_no ht)
   have HT2 := Lib.hid ht
   clear ht
   go_wp2_with fail
   refine (HT.out _ _ HS.out).mono ?_; rintro e w2 ⟨rfl, P2, O2⟩
   rw [HT2.out]
   rw [hts.out] at P2
   have P2' := Lib.hid P2
   have O2' := Lib.hid (HO.out.trans O2)
   have B2' := Lib.hid (HB.out.only O2 hlt)
   clear P2 O2
   go_wp2_with fail
   go_ret
   refine ⟨_, rfl, ?_, by rw [HX.out]; exact P2'.out, O2'.out⟩
   rw [HX.out]
   exact B2'.out.lies
  | true =>
   obtain ⟨n, rfl⟩ : ∃ n, gk = n + 1 := ⟨gk - 1, by have := takeP_yes ht; omega⟩
   obtain ⟨s3, hs3⟩ : ∃ s3, (takeP E mark s2).2 = s3 := ⟨_, rfl⟩
   have hl3 := Lib.hid (show s3.r.length ≤ n by have := takeP_yes ht; rw [hs3] at this; omega)
   have HE3 := Lib.hid (show R.1 = acc ++ (p s3).1 :: (sepL E mark p n (p s3).2).1 by have h1 := HE1.out; rw [sepL_yes _ ht, hs3] at h1; exact h1)
   have HE4 := Lib.hid (show R.2 = (sepL E mark p n (p s3).2).2 by have h1 := HE2.out; rw [sepL_yes _ ht, hs3] at h1; exact h1)
   have HT2 := Lib.hid ht
   have HS3 := Lib.hid hs3
   clear ht hs3 HE1 HE2
   go_wp2_with fail
   refine (HT.out _ _ HS.out).mono ?_; rintro e w2 ⟨rfl, P2, O2⟩
   rw [HT2.out]
   rw [HS3.out] at P2
   have P2' := Lib.hid P2
   have O2' := Lib.hid (HO.out.trans O2)
   have B2' := Lib.hid (HB.out.only O2 hlt)
   clear P2 O2
   go_wp2_with fail
   refine (hK2.out _ _ (by have := hl3.out; omega) P2'.out).mono ?_; rintro e w1 ⟨rfl, P1, O1⟩
   obtain ⟨x3, hx3⟩ : ∃ x3, (p s3).1 = x3 := ⟨_, rfl⟩
   obtain ⟨s4, hs4⟩ : ∃ s4, (p s3).2 = s4 := ⟨_, rfl⟩
   rw [hx3] at HE3
   rw [hs4] at HE3 HE4 P1
   rw [hx3]
   have hl4 := Lib.hid (show s4.r.length ≤ n by rw [← hs4]; exact Nat.le_trans (HP.out s3) hl3.out)
   have P3' := Lib.hid P1
   have O3' := Lib.hid (O2'.out.trans O1)
   have B3' := Lib.hid (B2'.out.only O1 hlt)
   clear P1 O1 hx3 hs4
   unfold vA
   have hsz3 : w.heap.size ≤ w1.heap.size := O3'.out.size
   have hby : (acc.length + 1) * 112 ≤ 140737488355328 := by omega
   go_wp2_with (at_builtin; refine appD rfl _ _ 72 rfl 100 _ 9 112 info_Atom rfl (by decide) Tryz.underlying72 w.heap.size u7 _ _ rfl B3'.out _ (dA x3) rfl rfl (LiesL.cons (.c _ rfl) (LiesL.cons (.c _ rfl) (LiesL.cons (.c _ rfl) (LiesL.cons (.c _ rfl) (LiesL.cons (.c _ rfl) (LiesL.cons (.c _ rfl) (LiesL.cons (.c _ rfl) (LiesL.cons (.c _ rfl) (LiesL.cons (.c _ rfl) (LiesL.nil _ _)))))))))) hby hsz3 ?_ (by decide); intro v' w8 hown8 hg8; have hV8 := Lib.hid hown8; have hF8 := Lib.hid (grown_below B3'.out hg8 hsz3); clear hown8 hg8)
   go_roundg n
   case rel =>
    refine ⟨acc ++ [x3], s4, hl4.out, by omega, by simp; omega, ?_, P3'.out.below hF8.out hlt, ?_, ?_, HE4⟩
    ·have := hV8.out
     unfold Hid
     rw [List.length_append, List.flatMap_append]
     simpa using this
    ·exact O3'.out.to hF8.out
    ·unfold Hid; rw [HE3.out, List.append_assoc]; rfl
   case measure => omega
theorem info_Block : (Tryz.prog.info? 57).map (fun i => (i.zero, i.size, i.bytes)) = some (some (.slice none 0 0), 1, 24) := by kernel_rfl
set_option maxHeartbeats 2000000 in
theorem sepBlock_any (p : P (List It)) (hp : Dec p) (hK : IsRdD K g E L p dB) (mark : Bs) (h : Prs w g E s) (hL : s.r.length ≤ L) (hL8 : L ≤ 8000) :
  Calls Tryz.prog 247 #[.pointer (some ⟨g, 0, none⟩), .string (ofL mark), .func (.func K) #[.pointer (some ⟨g, 0, none⟩)] #[]] w (GotB w g E (sepP E mark p s).2 57 1 (sepP E mark p s).1.length ((sepP E mark p s).1.flatMap (fun x => [dB x]))) := by
 obtain ⟨R, hR⟩ : ∃ R, sepP E mark p s = R := ⟨_, rfl⟩
 have hlt := h.lt
 have HR := Lib.hid hR
 have H := Lib.hid h
 have hE := hK.1
 have hK2 := Lib.hid hK.2
 have HP := Lib.hid hp
 have HT := Lib.hid (fun w s (h : Prs w g E s) => ptake_any h mark)
 rw [hR]
 obtain ⟨y, hy⟩ : ∃ y, ofL mark = y := ⟨_, rfl⟩
 rw [hy] at HT ⊢
 clear h hR hK hp hy
 have hL' := Lib.hid hL
 go_enter Tryz.func247, Tryz.ntmps247
 go_wp2_with fail
 refine (hK2.out _ _ hL'.out H.out).mono ?_; rintro e w1 ⟨v, rfl, LV, P1, O1⟩; obtain ⟨A, n0, c0, rfl, -⟩ := LV.slc
 have P1' := Lib.hid P1
 have O1' := Lib.hid O1
 obtain ⟨x, hx⟩ : ∃ x, (p s).1 = x := ⟨_, rfl⟩
 obtain ⟨s1, hs1⟩ : ∃ s1, (p s).2 = s1 := ⟨_, rfl⟩
 rw [hx] at LV
 rw [hs1] at P1'
 have HB1 := Lib.hid (Bld.lit w1 57 #[.slice A n0 c0] ((fun x => [dB x]) x) 1 rfl (LiesL.cons (LV.mono fun k _ hk => by omega) (LiesL.nil _ _)) O1.size)
 have HS1 := Lib.hid (show R.1 = [x] ++ (sepL E mark p s1.r.length s1).1 by rw [← HR.out, ← hx, ← hs1]; rfl)
 have HS2 := Lib.hid (show R.2 = (sepL E mark p s1.r.length s1).2 by rw [← HR.out, ← hs1]; rfl)
 have hl1 := Lib.hid (show s1.r.length ≤ L by rw [← hs1]; exact Nat.le_trans (HP.out s) hL'.out)
 clear P1 O1 hx hs1 LV
 go_wp2_with fail
 go_loopg [7, 11, 12, 13, 14, 15, 16, 17, 18] (s1.r.length) (fun gk v _ _ _ _ _ _ _ _ wr => SepRel w g E L w.heap.size 57 1 mark p (fun x => [dB x]) R gk v wr)
 case atStart =>
  refine ⟨[x], s1, Nat.le_refl _, hl1.out, ?_, ?_, P1'.out.below ((Below.refl w1.heap.size w1).alloc (Nat.le_refl _) _) P1'.out.lt, O1'.out.alloc _, HS1, HS2⟩
  ·have := hl1.out; simp; omega
  ·exact HB1
 case round =>
  clear P1' O1' HB1 HS1 HS2 hl1 H
  obtain ⟨acc, s2, hr2, hgk, hacc, HB, HS, HO, HE1, HE2⟩ := hrel
  cases ht : (takeP E mark s2).1 with
  | false =>
   have HX := Lib.hid (show R = (acc, s2) by
    have h1 := HE1.out
    have h2 := HE2.out
    rw [sepL_no _ ht] at h1 h2
    rw [List.append_nil] at h1
    exact Prod.ext h1 h2)
   have hts := Lib.hid (show (takeP E mark s2).2 = s2 from takeP_no ht)
   have HT2 := Lib.hid ht
   clear ht
   go_wp2_with fail
   refine (HT.out _ _ HS.out).mono ?_; rintro e w2 ⟨rfl, P2, O2⟩
   rw [HT2.out]
   rw [hts.out] at P2
   have P2' := Lib.hid P2
   have O2' := Lib.hid (HO.out.trans O2)
   have B2' := Lib.hid (HB.out.only O2 hlt)
   clear P2 O2
   go_wp2_with fail
   go_ret
   refine ⟨_, rfl, ?_, by rw [HX.out]; exact P2'.out, O2'.out⟩
   rw [HX.out]
   exact B2'.out
  | true =>
   obtain ⟨n, rfl⟩ : ∃ n, gk = n + 1 := ⟨gk - 1, by have := takeP_yes ht; omega⟩
   obtain ⟨s3, hs3⟩ : ∃ s3, (takeP E mark s2).2 = s3 := ⟨_, rfl⟩
   have hl3 := Lib.hid (show s3.r.length ≤ n by have := takeP_yes ht; rw [hs3] at this; omega)
   have HE3 := Lib.hid (show R.1 = acc ++ (p s3).1 :: (sepL E mark p n (p s3).2).1 by have h1 := HE1.out; rw [sepL_yes _ ht, hs3] at h1; exact h1)
   have HE4 := Lib.hid (show R.2 = (sepL E mark p n (p s3).2).2 by have h1 := HE2.out; rw [sepL_yes _ ht, hs3] at h1; exact h1)
   have HT2 := Lib.hid ht
   have HS3 := Lib.hid hs3
   clear ht hs3 HE1 HE2
   go_wp2_with fail
   refine (HT.out _ _ HS.out).mono ?_; rintro e w2 ⟨rfl, P2, O2⟩
   rw [HT2.out]
   rw [HS3.out] at P2
   have P2' := Lib.hid P2
   have O2' := Lib.hid (HO.out.trans O2)
   have B2' := Lib.hid (HB.out.only O2 hlt)
   clear P2 O2
   go_wp2_with fail
   refine (hK2.out _ _ (by have := hl3.out; omega) P2'.out).mono ?_; rintro e w1 ⟨v, rfl, LV, P1, O1⟩; obtain ⟨A, n0, c0, rfl, -⟩ := LV.slc
   obtain ⟨x3, hx3⟩ : ∃ x3, (p s3).1 = x3 := ⟨_, rfl⟩
   obtain ⟨s4, hs4⟩ : ∃ s4, (p s3).2 = s4 := ⟨_, rfl⟩
   rw [hx3] at HE3 LV
   rw [hs4] at HE3 HE4 P1
   have hl4 := Lib.hid (show s4.r.length ≤ n by rw [← hs4]; exact Nat.le_trans (HP.out s3) hl3.out)
   have P3' := Lib.hid P1
   have O3' := Lib.hid (O2'.out.trans O1)
   have B3' := Lib.hid (B2'.out.only O1 hlt)
   have LV' := Lib.hid (show LiesL w1 (fun k => w.heap.size ≤ k ∧ u7.ownBlock ≠ some k) [.slice A n0 c0] ((fun x => [dB x]) x3) from LiesL.cons (LV.mono fun k _ hk => ⟨Nat.le_trans O2'.out.size hk, fun e => by have := B2'.out.lt e; omega⟩) (LiesL.nil _ _))
   clear P1 O1 hx3 hs4 LV
   have hsz3 : w.heap.size ≤ w1.heap.size := O3'.out.size
   have hby : (acc.length + 1) * 24 ≤ 140737488355328 := by omega
   go_wp2_with (at_builtin; refine appD rfl _ _ 68 rfl 57 _ 1 24 info_Block rfl (by decide) Tryz.underlying68 w.heap.size u7 _ _ rfl B3'.out _ ((fun x => [dB x]) x3) rfl rfl LV'.out hby hsz3 ?_ (by decide); intro v' w8 hown8 hg8; have hV8 := Lib.hid hown8; have hF8 := Lib.hid (grown_below B3'.out hg8 hsz3); clear hown8 hg8)
   go_roundg n
   case rel =>
    refine ⟨acc ++ [x3], s4, hl4.out, by omega, by simp; omega, ?_, P3'.out.below hF8.out hlt, ?_, ?_, HE4⟩
    ·have := hV8.out
     unfold Hid
     rw [List.length_append, List.flatMap_append]
     simpa using this
    ·exact O3'.out.to hF8.out
    ·unfold Hid; rw [HE3.out, List.append_assoc]; rfl
   case measure => omega
end
end Go.Proofs.YtpnlojcimeiihaaGreatDoor
