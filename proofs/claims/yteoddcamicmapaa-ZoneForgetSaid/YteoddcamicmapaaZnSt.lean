/- Layer 13: ZoneStops, the walk (tools/gen_zt.py). -/
import Derived.Test.YteoddcamicmapaaZnLw
import Derived.Test.YteoddcamicmapaaZnPl
import Derived.Test.YteoddcamicmapaaLaw
namespace Go.Proofs.Yteoddcamicmapaa
open Go.RowKit

/-- v is a slice of zones. -/
def Zs (w : World) (v : Value) (zs : List (Int × List Int)) : Prop :=
  (v = .slice none 0 0 ∧ zs = []) ∨ ∃ ad c, v = .slice (some ad) zs.length c ∧ zs.length ≤ c ∧ ∀ j z, zs[j]? = some z → z.2.length ≤ 9223372036854775807 ∧ ∃ A c', w.cell? (ad.add (j * 2)) = some (.int .i64 z.1) ∧ w.cell? ⟨(ad.add (j * 2)).block, (ad.add (j * 2)).off + 1, none⟩ = some (.slice A z.2.length c') ∧ Sl iv w (.slice A z.2.length c') z.2
theorem Zs.shape {w : World} {v : Value} {zs : List (Int × List Int)} (h : Zs w v zs) : ∃ A c, v = .slice A zs.length c := by
  rcases h with ⟨rfl, rfl⟩ | ⟨ad, c, rfl, _⟩
  · exact ⟨none, 0, rfl⟩
  · exact ⟨some ad, c, rfl⟩
theorem zs_cell {w : World} {v : Value} {zs : List (Int × List Int)} (h : Zs w v zs) (i : Nat) (hi : i < zs.length) : ∃ ad c, v = .slice (some ad) zs.length c ∧ zs.length ≤ c ∧ zs[i].2.length ≤ 9223372036854775807 ∧ ∃ A c', w.cell? (ad.add (i * 2)) = some (.int .i64 zs[i].1) ∧ w.cell? ⟨(ad.add (i * 2)).block, (ad.add (i * 2)).off + 1, none⟩ = some (.slice A zs[i].2.length c') ∧ Sl iv w (.slice A zs[i].2.length c') zs[i].2 := by
  rcases h with ⟨rfl, rfl⟩ | ⟨ad, c, rfl, hc, hcell⟩
  · simp at hi
  · exact ⟨ad, c, rfl, hc, hcell i _ (List.getElem?_eq_getElem hi)⟩
/-- Where the law stands. -/
def RelS (zs : List (Int × List Int)) (N : Int) (i ch : Nat) (a : List Int) : Prop :=
  (i = 0 ∧ ch = 0 ∧ zs[0]? = some (N, a)) ∨ ∃ m : Nat, N = m ∧ 1 ≤ m ∧ m ≤ 3 ∧ Zv (m + 1) a ∧ StI (m + 1) a ch
theorem RelS.late {zs : List (Int × List Int)} {N : Int} {i ch : Nat} {a : List Int} (h : RelS zs N i ch a) (hi : 0 < i) : ∃ m : Nat, N = m ∧ 1 ≤ m ∧ m ≤ 3 ∧ Zv (m + 1) a ∧ StI (m + 1) a ch := by
  rcases h with ⟨h1, _⟩ | h
  · omega
  · exact h
theorem tells_true {w w' : World} (h : Below w.heap.size w w') : Tells w (.bool true) (.returned (.bool true)) w' := Tells.of h
set_option maxRecDepth 20000 in
set_option maxHeartbeats 1000000 in
theorem zonestops_walk (v : Value) (zs : List (Int × List Int)) (w : World) (h : Zs w v zs) :
    Calls Try.prog 10 #[v] w (Tells w (.bool true)) := by
  obtain ⟨A, cz, rfl⟩ := h.shape
  have HZ := Lib.hid h
  clear h
  by_cases hz0 : zs.length = 0
  · rw [hz0]
    clear HZ hz0
    go_enter Try.func10, Try.ntmps10
    go_wp2_with fail
    refine (awake_any _).mono ?_; rintro e w1 ⟨rfl, hb1⟩
    have HB1 := Lib.hid hb1
    clear hb1
    go_wp2_with fail
    refine (awake_any _).mono ?_; rintro e w2 ⟨rfl, hb2⟩
    have HB2 := Lib.hid (HB1.out.trans (hb2.mono HB1.out.size))
    clear hb2 HB1
    go_wp2_with fail
    go_ret
    exact tells_true HB2.out
  by_cases hz1 : 40 < zs.length
  · have hz1' : ¬ ((zs.length : Int) ≤ 40) := by omega
    have hz0' : ((zs.length : Int) == 0) = false := by rw [beq_eq_false_iff_ne]; omega
    clear HZ hz0
    go_enter Try.func10, Try.ntmps10
    go_wp2_with fail
    refine (awake_any _).mono ?_; rintro e w1 ⟨rfl, hb1⟩
    have HB1 := Lib.hid hb1
    clear hb1
    go_wp2_with fail
    refine (awake_any _).mono ?_; rintro e w2 ⟨rfl, hb2⟩
    have HB2 := Lib.hid (HB1.out.trans (hb2.mono HB1.out.size))
    clear hb2 HB1
    go_wp2_with fail
    go_ret
    exact tells_true HB2.out
  have hz0' : ((zs.length : Int) == 0) = false := by rw [beq_eq_false_iff_ne]; omega
  have hz1' : (zs.length : Int) ≤ 40 := by omega
  have d40 : decide ((40 : Int) < (zs.length : Int)) = false := decide_eq_false (by omega)
  have hpos : 0 < zs.length := by omega
  have hpos' : (0 : Int) < (zs.length : Int) := by omega
  obtain ⟨ad, c', hs, hcap, hz2, A1, c1, g0, g1, hsl⟩ := zs_cell HZ.out 0 hpos
  simp only [Value.slice.injEq, true_and] at hs
  obtain ⟨rfl, rfl⟩ := hs
  have HH := Lib.hid (show zs[0]? = some zs[0] from List.getElem?_eq_getElem hpos)
  generalize zs[0] = z0 at *
  obtain ⟨N, a⟩ := z0
  dsimp only at g0 g1 hsl hz2
  rw [show 0 * 2 = 0 from rfl] at g0 g1
  have HS0 := Lib.hid hsl
  have HN0 := Lib.hid hz2
  have G0 := Lib.hid g0
  have G1 := Lib.hid g1
  clear hz0 hz1 hsl g0 g1 hz2
  go_enter Try.func10, Try.ntmps10
  go_wp2_with fail
  refine (awake_any _).mono ?_; rintro e w1 ⟨rfl, hb1⟩
  have HB1 := Lib.hid hb1
  have g0 : w1.cell? ad = some (.int .i64 N) := by have := (hb1.cell (World.block_lt_of_cell? _ _ G0.out)).trans G0.out; simpa [Addr.add] using this
  have g1 : w1.cell? ⟨ad.block, ad.off + 1, none⟩ = some (.slice A1 a.length c1) := by have := (hb1.cell (World.block_lt_of_cell? _ _ G1.out)).trans G1.out; simpa [Addr.add] using this
  clear hb1 G0 G1
  go_wp2_with fail
  refine (own_any N A1 a.length c1 _).mono ?_; rintro e w2 ⟨rfl, hb2⟩
  have HB2 := Lib.hid (HB1.out.trans (hb2.mono HB1.out.size))
  have HX0 := Lib.hid (Bx.new w2 29 #[.int .i64 N, .slice A1 a.length c1])
  clear hb2 g0 g1 HB1
  go_wp2_with fail
  have HS2 := Lib.hid (HS0.out.below (HB2.out.trans (al1 w2 (.cells #[.int .i64 N, .slice A1 a.length c1] 29)|>.mono HB2.out.size)))
  have HB3 := Lib.hid (HB2.out.alloc HB2.out.size (.cells #[.int .i64 N, .slice A1 a.length c1] 29))
  have HW2 := Lib.hid HB2.out.size
  generalize hnx : w2.heap.size = nbx at *
  clear hnx HS0 HB2
  generalize w2.alloc (.cells #[.int .i64 N, .slice A1 a.length c1] 29) = w3 at *
  go_loopw [5, 32] (fun cv jv wr => ∃ (i ch : Nat) (a : List Int) (A1 : Option Addr) (c1 : Nat), i ≤ zs.length ∧ jv = .int .i64 (i : Int) ∧ cv = .int .i64 (ch : Int) ∧ ch ≤ i ∧ Hid (RelS zs N i ch a) ∧ a.length ≤ 9223372036854775807 ∧ Hid (Bx wr nbx 29 #[.int .i64 N, .slice A1 a.length c1]) ∧ Hid (Sl iv wr (.slice A1 a.length c1) a) ∧ Hid (Below w.heap.size w wr)) (fun _ jv _ => zs.length - (intOf jv).toNat)
  case atStart => exact ⟨0, 0, a, A1, c1, Nat.zero_le _, rfl, rfl, Nat.le_refl _, Lib.hid (.inl ⟨rfl, rfl, HH.out⟩), HN0.out, HX0, HS2, HB3⟩
  case round =>
    clear HH HN0 HX0 HS2 HB3
    obtain ⟨i, ch, a, A1, c1, hi, rfl, rfl, hch, HREL, hla, HX, HS, HB⟩ := hrel
    by_cases hlt : i < zs.length
    · obtain ⟨ad', c', hs, -, hz2, A2, c2, g0, g1, hsl⟩ := zs_cell HZ.out i hlt
      simp only [Value.slice.injEq, true_and, Option.some.injEq] at hs
      obtain ⟨rfl, rfl⟩ := hs
      have HH := Lib.hid (show zs[i]? = some zs[i] from List.getElem?_eq_getElem hlt)
      generalize zs[i] = z0 at *
      obtain ⟨M, z⟩ := z0
      dsimp only at g0 g1 hsl hz2
      have q0 := (HB.out.cell (World.block_lt_of_cell? _ _ g0)).trans g0
      have q1 := (HB.out.cell (World.block_lt_of_cell? _ _ g1)).trans g1
      have HE0 := Lib.hid q0
      have HE1 := Lib.hid q1
      have HSZ := Lib.hid (hsl.below HB.out)
      have hi0 : (0 : Int) ≤ (i : Int) := by omega
      have hi1 : (i : Int) < (zs.length : Int) := by omega
      clear g0 g1 hsl
      by_cases hN1 : N < 1
      · clear HREL HX HS HE0 HE1 HSZ HH HZ q0 q1
        go_wp2_with fail
        go_ret
        exact tells_true HB.out
      by_cases hN3 : 3 < N
      · have hN3' : ¬ N ≤ 3 := by omega
        have hN1' : 1 ≤ N := by omega
        clear HREL HX HS HE0 HE1 HSZ HH HZ q0 q1 hN1
        go_wp2_with fail
        go_ret
        exact tells_true HB.out
      have hN3' : N ≤ 3 := by omega
      have hN1' : 1 ≤ N := by omega
      by_cases hMN : M = N
      rotate_left
      · have hne : (M != N) = true := by rw [bne_iff_ne]; exact hMN
        clear HREL HX HS HE0 HE1 HSZ HH HZ hN1 hN3 hMN
        go_wp2_with fail
        go_ret
        exact tells_true HB.out
      subst hMN
      cases hzv : zvB M z with
      | false =>
        have HV := Lib.hid hzv
        have HSZ2 := HSZ
        clear HREL HX HS HE0 HE1 HH HZ hN1 hN3 hzv
        go_wp2_with fail
        refine (rvalid_any M _ z _ HSZ2.out hz2).mono ?_; rintro e w4 ⟨rfl, hb4⟩; rw [HV.out]
        have HB4 := Lib.hid (HB.out.trans (hb4.mono HB.out.size))
        clear hb4 q0 q1
        go_wp2_with fail
        go_ret
        exact tells_true HB4.out
      | true =>
        obtain ⟨m, rfl, hm, -, hzz⟩ := zv_nat hzv
        have HV := Lib.hid hzv
        have HRL := Lib.hid (show Zv (m + 1) a ∧ StI (m + 1) a ch from by
          rcases HREL.out with ⟨h1, h2, h3⟩ | ⟨k, h1, h2, h3, h4, h5⟩
          · subst h1 h2
            have h4 := HH.out
            rw [h3] at h4
            simp only [Option.some.injEq, Prod.mk.injEq, true_and] at h4
            subst h4
            exact ⟨hzz, StI.start _ _⟩
          · obtain rfl : m = k := by omega
            exact ⟨h4, h5⟩)
        obtain ⟨a2, hw, hza2, hs1, hs2, hst⟩ := wid_step HRL.out.1 hzz HRL.out.2
        have HW := Lib.hid hw
        have HA2 := Lib.hid hza2
        have HS1 := Lib.hid hs1
        have HS2 := Lib.hid hs2
        have HST := Lib.hid hst
        have HZZ := Lib.hid hzz
        clear hw hza2 hs1 hs2 hst hzz hzv HREL HRL HH hN1 hN3
        go_wp2_with fail
        refine (rvalid_any (m : Int) _ z _ HSZ.out hz2).mono ?_; rintro e w4 ⟨rfl, hb4⟩; rw [HV.out]
        have HB4 := Lib.hid (HB.out.trans (hb4.mono HB.out.size))
        have HX4 := Lib.hid (HX.out.below hb4)
        have HSA4 := Lib.hid (HS.out.below hb4)
        have HSZ4 := Lib.hid (HSZ.out.below hb4)
        have HE04 := Lib.hid ((hb4.cell (World.block_lt_of_cell? _ _ HE0.out)).trans HE0.out)
        have HE14 := Lib.hid ((hb4.cell (World.block_lt_of_cell? _ _ HE1.out)).trans HE1.out)
        clear hb4 q0 q1 HB HX HS HSZ HE0 HE1
        have HWID := Lib.hid (show ∀ w6, Below w4.heap.size w4 w6 → Calls Try.prog 33 #[.agg #[.int .i64 (m : Int), .slice A1 a.length c1], .agg #[.int .i64 (m : Int), .slice A2 z.length c2]] w6 (ZP w6 (((m : Int), a2), .int .i64 0)) from
          fun w6 h6 => by rw [← HW.out]; exact widen_any (m : Int) (m : Int) _ _ a z w6 (HSA4.out.below h6) hla (HSZ4.out.below h6) hz2)
        go_wp2_with fail
        refine region_invE (n := 102) (LwI (w4) 29 (fun zz => match zz with | 0 => .agg #[.int .i64 (m : Int), .slice A1 a.length c1] | 1 => .slice (some ad) zs.length cz | 2 => .int .i64 (i : Int) | 3 => .pointer (some (ad.add (i * 2))) | 4 => .agg #[.int .i64 (m : Int), .slice A2 z.length c2] | 5 => .agg #[.int .i64 (m : Int), .slice A2 z.length c2] | _ => undef) 6 ((((m : Int), a2), .int .i64 0))) (by kernel_rfl) (by kernel_rfl) rfl ?_ (allOps_spec ?_) ?_
        · intro vs
          exact LwI.start
        · refine ⟨?_, ?_, ?_, ?_, ?_, ?_, ?_, ?_, ?_, ?_, ?_, ?_, ?_, trivial⟩
          · intro L vs ac w6 hB hL hd hI
            have b4 : ac.tmps[4]?.getD undef = .pointer (some ⟨nbx, 0, none⟩) := hB.at 4 (by kernel_rfl)
            have hlk : L 6 = false := (hB.wait 0 6 hL (by kernel_rfl))
            have hx := hI.bel
            have q0 := (HX4.out.below hx).cell 0
            have q1 := (HX4.out.below hx).cell 1
            exact stepI_run (v := .agg #[.int .i64 (m : Int), .slice A1 a.length c1]) rfl (by simp [execOp, go_sem, Act.eval, b4, q0, q1]) (hI.plain 0 (by decide) hlk (Below.refl _ _))
          · intro L vs ac w6 hB hL hd hI
            have b0 : ac.tmps[0]?.getD undef = .slice (some ad) zs.length cz := hB.at 0 (by kernel_rfl)
            have hlk : L 6 = false := (hB.wait 5 6 (hB.wait 4 5 (hB.wait 3 4 (hB.wait 1 3 hL (by kernel_rfl)) (by kernel_rfl)) (by kernel_rfl)) (by kernel_rfl))
            have hx := hI.bel
            exact stepI_run (v := .slice (some ad) zs.length cz) rfl (by simp [execOp, go_sem, Act.eval, b0]) (hI.plain 1 (by decide) hlk (Below.refl _ _))
          · intro L vs ac w6 hB hL hd hI
            have b6 : ac.tmps[6]?.getD undef = .int .i64 (i : Int) := hB.at 6 (by kernel_rfl)
            have hlk : L 6 = false := (hB.wait 5 6 (hB.wait 4 5 (hB.wait 3 4 (hB.wait 2 3 hL (by kernel_rfl)) (by kernel_rfl)) (by kernel_rfl)) (by kernel_rfl))
            have hx := hI.bel
            exact stepI_run (v := .int .i64 (i : Int)) rfl (by simp [execOp, go_sem, Act.eval, b6]) (hI.plain 2 (by decide) hlk (Below.refl _ _))
          · intro L vs ac w6 hB hL hd hI
            have b60 : ac.tmps[60]?.getD undef = .slice (some ad) zs.length cz := (hB.val 1 (hd ⟨1, .data⟩ (by simp) rfl) 60 rfl).trans (hI.v 1 (by decide) (hd ⟨1, .data⟩ (by simp) rfl))
            have b61 : ac.tmps[61]?.getD undef = .int .i64 (i : Int) := (hB.val 2 (hd ⟨2, .data⟩ (by simp) rfl) 61 rfl).trans (hI.v 2 (by decide) (hd ⟨2, .data⟩ (by simp) rfl))
            have hlk : L 6 = false := (hB.wait 5 6 (hB.wait 4 5 (hB.wait 3 4 hL (by kernel_rfl)) (by kernel_rfl)) (by kernel_rfl))
            have hx := hI.bel
            exact stepI_run (v := .pointer (some (ad.add (i * 2)))) rfl (by simp [execOp, go_sem, Act.eval, b60, b61, hi0, hi1]) (hI.plain 3 (by decide) hlk (Below.refl _ _))
          · intro L vs ac w6 hB hL hd hI
            have b62 : ac.tmps[62]?.getD undef = .pointer (some (ad.add (i * 2))) := (hB.val 3 (hd ⟨3, .data⟩ (by simp) rfl) 62 rfl).trans (hI.v 3 (by decide) (hd ⟨3, .data⟩ (by simp) rfl))
            have hlk : L 6 = false := (hB.wait 5 6 (hB.wait 4 5 hL (by kernel_rfl)) (by kernel_rfl))
            have hx := hI.bel
            have q0 := (hx.cell (World.block_lt_of_cell? _ _ HE04.out)).trans HE04.out
            have q1 := (hx.cell (World.block_lt_of_cell? _ _ HE14.out)).trans HE14.out
            exact stepI_run (v := .agg #[.int .i64 (m : Int), .slice A2 z.length c2]) rfl (by simp [execOp, go_sem, Act.eval, b62, q0, q1]) (hI.plain 4 (by decide) hlk (Below.refl _ _))
          · intro L vs ac w6 hB hL hd hI
            have b63 : ac.tmps[63]?.getD undef = .agg #[.int .i64 (m : Int), .slice A2 z.length c2] := (hB.val 4 (hd ⟨4, .data⟩ (by simp) rfl) 63 rfl).trans (hI.v 4 (by decide) (hd ⟨4, .data⟩ (by simp) rfl))
            have hlk : L 6 = false := (hB.wait 5 6 hL (by kernel_rfl))
            have hx := hI.bel
            refine stepI_call (f := 15) (args := #[.agg #[.int .i64 (m : Int), .slice A2 z.length c2]]) rfl (by simp [go_sem, b63]) ?_
            refine (own_any (m : Int) A2 z.length c2 w6).mono ?_
            rintro e w9 ⟨rfl, h9⟩
            exact ⟨_, rfl, hI.plain 5 (by decide) hlk h9⟩
          · intro L vs ac w6 hB hL hd hI
            have b59 : ac.tmps[59]?.getD undef = .agg #[.int .i64 (m : Int), .slice A1 a.length c1] := (hB.val 0 (hd ⟨0, .data⟩ (by simp) rfl) 59 rfl).trans (hI.v 0 (by decide) (hd ⟨0, .data⟩ (by simp) rfl))
            have b64 : ac.tmps[64]?.getD undef = .agg #[.int .i64 (m : Int), .slice A2 z.length c2] := (hB.val 5 (hd ⟨5, .data⟩ (by simp) rfl) 64 rfl).trans (hI.v 5 (by decide) (hd ⟨5, .data⟩ (by simp) rfl))
            have hl1 : L 7 = false := hB.wait 6 7 hL (by kernel_rfl)
            have hl2 : L 8 = false := hB.wait 7 8 hl1 (by kernel_rfl)
            have hl5 : L 11 = false := hB.wait 8 11 hl2 (by kernel_rfl)
            have hx := hI.bel
            refine stepI_call (f := 33) (args := #[.agg #[.int .i64 (m : Int), .slice A1 a.length c1], .agg #[.int .i64 (m : Int), .slice A2 z.length c2]]) rfl (by simp [go_sem, b59, b64]) ?_
            exact (HWID.out w6 hx).mono fun e w9 h9 => hI.call hl1 hl2 hl5 h9
          · intro L vs ac w6 hB hL hd hI
            have hk : L 6 = true := hd ⟨6, .data⟩ (by simp) rfl
            have b : ac.tmps[65]?.getD undef = vs 6 := hB.val 6 hk 65 rfl
            exact stepI_run (v := vs 6) rfl (by simp [execOp, go_sem, Act.eval, b]) (hI.move hk)
          · intro L vs ac w6 hB hL hd hI
            have hm := hI.m (hd ⟨7, .data⟩ (by simp) rfl)
            obtain ⟨A9, c9, ek, -⟩ := hI.c hm.1
            have b : ac.tmps[58]?.getD undef = _ := (hB.val 7 (hd ⟨7, .data⟩ (by simp) rfl) 58 rfl).trans (hm.2.trans ek)
            exact stepI_run (v := fstV (vs 6)) rfl (by simp [execOp, go_sem, Act.eval, b, ek, fstV]) (hI.ext0 hm.1)
          · intro L vs ac w6 hB hL hd hI
            have hm := hI.m (hd ⟨7, .data⟩ (by simp) rfl)
            obtain ⟨A9, c9, ek, -⟩ := hI.c hm.1
            have b : ac.tmps[58]?.getD undef = _ := (hB.val 7 (hd ⟨7, .data⟩ (by simp) rfl) 58 rfl).trans (hm.2.trans ek)
            exact stepI_run (v := ((((m : Int), a2), .int .i64 0) : (Int × List Int) × Value).2) rfl (by simp [execOp, go_sem, Act.eval, b]) hI.ext1
          · intro L vs ac w6 hB hL hd hI
            have hl5 : L 11 = false := hB.wait 10 11 hL (by kernel_rfl)
            exact stepI_run (v := .pointer (some ⟨w6.heap.size, 0, none⟩)) (w' := w6.alloc (.cells #[.int .i64 0, .slice none 0 0] 29)) rfl (exec_alloc 29 rfl info_Zn) (hI.alc hl5)
          · intro L vs ac w6 hB hL hd hI
            have h4 : L 10 = true := hd ⟨10, .data⟩ (by simp) rfl
            have h2 : L 8 = true := hd ⟨8, .data⟩ (by simp) rfl
            obtain ⟨hk, e2⟩ := hI.e0 h2
            obtain ⟨A9, c9, ek, -⟩ := hI.c hk
            obtain ⟨nb, hv, -, hx, -⟩ := hI.al h4
            rw [hL, if_neg Bool.false_ne_true] at hx
            have bp : ac.tmps[7]?.getD undef = .pointer (some ⟨nb, 0, none⟩) := (hB.val 10 h4 7 rfl).trans hv
            have bq : ac.tmps[66]?.getD undef = .agg (cellsV (fstV (vs 6))) := (hB.val 8 h2 66 rfl).trans (e2.trans (by rw [ek]; rfl))
            exact stepI_store_row rfl 29 7 66 rfl nb _ bp bq _ hx (by rw [ek]; kernel_rfl) (by rw [ek]; rfl) (by rw [ek]; simp [cellsV, fstV, Value.oneCell']) (hI.sto h4 hk hv)
          · intro L vs ac w6 hB hL hd hI
            have h3 : L 9 = true := hd ⟨9, .data⟩ (by simp) rfl
            have b : ac.tmps[67]?.getD undef = ((((m : Int), a2), .int .i64 0) : (Int × List Int) × Value).2 := (hB.val 9 h3 67 rfl).trans (hI.e1 h3)
            exact stepI_run (v := ((((m : Int), a2), .int .i64 0) : (Int × List Int) × Value).2) rfl (by simp [execOp, go_sem, Act.eval, b]) hI.asg
        · intro L vs w5 hall hI
          obtain ⟨nb5, A5, c5, e1, e2, hnb5, hx5, ho5, hne5, hb5⟩ := hI.fin fun i hi => hall i hi
          clear hI hall
          simp only [putAll, Act.put, List.setIfInBounds_toArray, List.set_cons_zero, List.set_cons_succ, Nat.zero_add, Nat.reduceAdd, e1, e2]
          clear e1 e2
          dsimp only at hx5 ho5 hne5
          have HB5 := Lib.hid (HB4.out.trans (hb5.mono HB4.out.size))
          have HX5 := Lib.hid (HX4.out.below hb5)
          have HN5 := Lib.hid hx5
          have HSA5 := Lib.hid (HSA4.out.below hb5)
          have HSZ5 := Lib.hid (HSZ4.out.below hb5)
          have HSN5 := Lib.hid (Own.sl ho5)
          have HO5 := Lib.hid ho5
          have HE05 := Lib.hid ((hb5.cell (World.block_lt_of_cell? _ _ HE04.out)).trans HE04.out)
          have HE15 := Lib.hid ((hb5.cell (World.block_lt_of_cell? _ _ HE14.out)).trans HE14.out)
          have HLT := Lib.hid HX4.out.lt
          have HL2 := Lib.hid (show a2.length ≤ 9223372036854775807 from by rw [HA2.out.len]; exact Nat.le_trans (Nat.mul_le_mul (by omega : m + 1 ≤ 25) (by omega : m + 1 ≤ 25)) (by decide))
          clear hx5 ho5 hne5 hb5 HX4 HSA4 HSZ4 HE04 HE14 HWID HB4
          have HSU1 := Lib.hid (show ∀ w6, Below w5.heap.size w5 w6 → Calls Try.prog 35 #[.agg #[.int .i64 (m : Int), .slice A1 a.length c1], .agg #[.int .i64 (m : Int), .slice A5 a2.length c5]] w6 (Tells w6 (.bool true)) from
            fun w6 h6 => by rw [← HS1.out]; exact sub_any (m : Int) (m : Int) _ _ a a2 w6 (HSA5.out.below h6) hla (HSN5.out.below h6) HL2.out)
          have HSU2 := Lib.hid (show ∀ w6, Below w5.heap.size w5 w6 → Calls Try.prog 35 #[.agg #[.int .i64 (m : Int), .slice A2 z.length c2], .agg #[.int .i64 (m : Int), .slice A5 a2.length c5]] w6 (Tells w6 (.bool true)) from
            fun w6 h6 => by rw [← HS2.out]; exact sub_any (m : Int) (m : Int) _ _ z a2 w6 (HSZ5.out.below h6) hz2 (HSN5.out.below h6) HL2.out)
          go_wp2_with fail
          refine region_phi (n := 102) (Wd [(false, .int .i64 0),
              (false, .bool false),
              (false, .bool false),
              (false, .agg #[.int .i64 (m : Int), .slice A1 a.length c1]),
              (false, .agg #[.int .i64 (m : Int), .slice A5 a2.length c5]),
              (false, .bool true),
              (false, .bool false),
              (false, .bool false),
              (false, .bool false),
              (false, .slice (some ad) zs.length cz),
              (false, .int .i64 (i : Int)),
              (false, .pointer (some (ad.add (i * 2)))),
              (false, .agg #[.int .i64 (m : Int), .slice A2 z.length c2]),
              (false, .agg #[.int .i64 (m : Int), .slice A2 z.length c2]),
              (false, .agg #[.int .i64 (m : Int), .slice A5 a2.length c5]),
              (false, .bool true),
              (false, .bool false),
              (false, .bool false)]) (by kernel_rfl) (by kernel_rfl) rfl (fun _ _ _ _ h _ => h) (allOps_spec ?_) ?_
          · refine ⟨?_, ?_, ?_, ?_, ?_, ?_, ?_, ?_, ?_, ?_, ?_, ?_, ?_, ?_, ?_, ?_, ?_, ?_, trivial⟩
            · intro ac w' hb hp
              have b8 : ac.tmps[8]?.getD undef = .int .i64 0 := hb.at 8 (by kernel_rfl)
              exact wd_run rfl rfl (by simp [execOp, go_sem, Act.eval, b8])
            · exact fun ac w' hb hp => wd_run rfl rfl (by simp [execOp, go_sem, Act.eval, wd_get (hp ⟨0, .data⟩ (by simp) rfl _ rfl) rfl rfl])
            · exact fun ac w' hb hp => wd_run rfl rfl (by simp [execOp, go_sem, Act.eval, wd_get (hp ⟨1, .data⟩ (by simp) rfl _ rfl) rfl rfl])
            · intro ac w' hb hp
              have gg := wd_get (hp ⟨2, .guard⟩ (by simp) rfl _ rfl) rfl rfl
              have b4 : ac.tmps[4]?.getD undef = .pointer (some ⟨nbx, 0, none⟩) := hb.at 4 (by kernel_rfl)
              have q0 := (HX5.out.below hb.ext).cell 0
              have q1 := (HX5.out.below hb.ext).cell 1
              exact wd_run rfl (by simp [Region.wanted, yielded, bool_at gg]) (by simp [execOp, go_sem, Act.eval, b4, q0, q1])
            · intro ac w' hb hp
              have gg := wd_get (hp ⟨2, .guard⟩ (by simp) rfl _ rfl) rfl rfl
              have b7 : ac.tmps[7]?.getD undef = .pointer (some ⟨nb5, 0, none⟩) := hb.at 7 (by kernel_rfl)
              have q0 := (HN5.out.below hb.ext).cell 0
              have q1 := (HN5.out.below hb.ext).cell 1
              exact wd_run rfl (by simp [Region.wanted, yielded, bool_at gg]) (by simp [execOp, go_sem, Act.eval, b7, q0, q1])
            · intro ac w' hb hp
              have gg := wd_get (hp ⟨2, .guard⟩ (by simp) rfl _ rfl) rfl rfl
              refine step_call (f := 35) (args := #[.agg #[.int .i64 (m : Int), .slice A1 a.length c1], .agg #[.int .i64 (m : Int), .slice A5 a2.length c5]]) (by simp [Region.wanted, yielded, bool_at gg]) (by simp [go_sem, wd_get (hp ⟨3, .data⟩ (by simp) rfl _ rfl) rfl rfl, wd_get (hp ⟨4, .data⟩ (by simp) rfl _ rfl) rfl rfl]) ?_
              exact (HSU1.out w' hb.ext).mono fun e w9 h9 => ⟨_, h9.1, h9.2, wd_mk rfl fun _ => rfl⟩
            · intro ac w' hb hp
              have gg := wd_get (hp ⟨2, .guard⟩ (by simp) rfl _ rfl) rfl rfl
              exact wd_run rfl (by simp [Region.wanted, yielded, bool_at gg]) (by simp [execOp, go_sem, Act.eval, wd_get (hp ⟨5, .data⟩ (by simp) rfl _ rfl) rfl rfl])
            · exact fun ac w' hb hp => wd_run rfl rfl (by simp [execOp, go_sem, Act.eval, wd_get (hp ⟨2, .data⟩ (by simp) rfl _ rfl) rfl rfl, wd_get (hp ⟨6, .data⟩ (by simp) rfl _ rfl) rfl rfl])
            · exact fun ac w' hb hp => wd_run rfl rfl (by simp [execOp, go_sem, Act.eval, wd_get (hp ⟨7, .data⟩ (by simp) rfl _ rfl) rfl rfl])
            · intro ac w' hb hp
              have gg := wd_get (hp ⟨8, .guard⟩ (by simp) rfl _ rfl) rfl rfl
              have b0 : ac.tmps[0]?.getD undef = .slice (some ad) zs.length cz := hb.at 0 (by kernel_rfl)
              exact wd_run rfl (by simp [Region.wanted, yielded, bool_at gg]) (by simp [execOp, go_sem, Act.eval, b0])
            · intro ac w' hb hp
              have gg := wd_get (hp ⟨8, .guard⟩ (by simp) rfl _ rfl) rfl rfl
              have b6 : ac.tmps[6]?.getD undef = .int .i64 (i : Int) := hb.at 6 (by kernel_rfl)
              exact wd_run rfl (by simp [Region.wanted, yielded, bool_at gg]) (by simp [execOp, go_sem, Act.eval, b6])
            · intro ac w' hb hp
              have gg := wd_get (hp ⟨8, .guard⟩ (by simp) rfl _ rfl) rfl rfl
              exact wd_run rfl (by simp [Region.wanted, yielded, bool_at gg]) (by simp [execOp, go_sem, Act.eval, wd_get (hp ⟨9, .data⟩ (by simp) rfl _ rfl) rfl rfl, wd_get (hp ⟨10, .data⟩ (by simp) rfl _ rfl) rfl rfl, hi0, hi1])
            · intro ac w' hb hp
              have gg := wd_get (hp ⟨8, .guard⟩ (by simp) rfl _ rfl) rfl rfl
              have q0 := (hb.ext.cell (World.block_lt_of_cell? _ _ HE05.out)).trans HE05.out
              have q1 := (hb.ext.cell (World.block_lt_of_cell? _ _ HE15.out)).trans HE15.out
              exact wd_run rfl (by simp [Region.wanted, yielded, bool_at gg]) (by simp [execOp, go_sem, Act.eval, wd_get (hp ⟨11, .data⟩ (by simp) rfl _ rfl) rfl rfl, q0, q1])
            · intro ac w' hb hp
              have gg := wd_get (hp ⟨8, .guard⟩ (by simp) rfl _ rfl) rfl rfl
              refine step_call (f := 15) (args := #[.agg #[.int .i64 (m : Int), .slice A2 z.length c2]]) (by simp [Region.wanted, yielded, bool_at gg]) (by simp [go_sem, wd_get (hp ⟨12, .data⟩ (by simp) rfl _ rfl) rfl rfl]) ?_
              exact (own_any (m : Int) A2 z.length c2 w').mono fun e w9 h9 => ⟨_, h9.1, h9.2, wd_mk rfl fun _ => rfl⟩
            · intro ac w' hb hp
              have gg := wd_get (hp ⟨8, .guard⟩ (by simp) rfl _ rfl) rfl rfl
              have b7 : ac.tmps[7]?.getD undef = .pointer (some ⟨nb5, 0, none⟩) := hb.at 7 (by kernel_rfl)
              have q0 := (HN5.out.below hb.ext).cell 0
              have q1 := (HN5.out.below hb.ext).cell 1
              exact wd_run rfl (by simp [Region.wanted, yielded, bool_at gg]) (by simp [execOp, go_sem, Act.eval, b7, q0, q1])
            · intro ac w' hb hp
              have gg := wd_get (hp ⟨8, .guard⟩ (by simp) rfl _ rfl) rfl rfl
              refine step_call (f := 35) (args := #[.agg #[.int .i64 (m : Int), .slice A2 z.length c2], .agg #[.int .i64 (m : Int), .slice A5 a2.length c5]]) (by simp [Region.wanted, yielded, bool_at gg]) (by simp [go_sem, wd_get (hp ⟨13, .data⟩ (by simp) rfl _ rfl) rfl rfl, wd_get (hp ⟨14, .data⟩ (by simp) rfl _ rfl) rfl rfl]) ?_
              exact (HSU2.out w' hb.ext).mono fun e w9 h9 => ⟨_, h9.1, h9.2, wd_mk rfl fun _ => rfl⟩
            · intro ac w' hb hp
              have gg := wd_get (hp ⟨8, .guard⟩ (by simp) rfl _ rfl) rfl rfl
              exact wd_run rfl (by simp [Region.wanted, yielded, bool_at gg]) (by simp [execOp, go_sem, Act.eval, wd_get (hp ⟨15, .data⟩ (by simp) rfl _ rfl) rfl rfl])
            · exact fun ac w' hb hp => wd_run rfl rfl (by simp [execOp, go_sem, Act.eval, wd_get (hp ⟨8, .data⟩ (by simp) rfl _ rfl) rfl rfl, wd_get (hp ⟨16, .data⟩ (by simp) rfl _ rfl) rfl rfl])
          · intro vs w6 hext hall
            have HEXT := Lib.hid hext
            have e17 : vs 17 = .bool false := hall 17 (by decide) rfl
            clear hext hall
            simp only [putAll, Act.put, List.setIfInBounds_toArray, List.set_cons_zero, List.set_cons_succ, Nat.zero_add, Nat.reduceAdd, e17]
            clear e17
            have HB6 := Lib.hid (HB5.out.trans (HEXT.out.mono HB5.out.size))
            have HX6 := Lib.hid (HX5.out.below HEXT.out)
            have HN6 := Lib.hid (HN5.out.below HEXT.out)
            have HSA6 := Lib.hid (HSA5.out.below HEXT.out)
            have HO6 := Lib.hid (show Own w6 _ _ _ _ from Own.keep HO5.out HEXT.out)
            clear HEXT HX5 HN5 HSA5 HSZ5 HSN5 HE05 HE15 HSU1 HSU2 HO5 HB5
            obtain ⟨x0, x1⟩ := HX6.out.k2
            obtain ⟨n0, n1⟩ := HN6.out.k2
            go_wp2_with fail
            refine (sub_any (m : Int) (m : Int) _ _ a2 a w6 (Own.sl HO6.out) HL2.out HSA6.out hla).mono ?_; rintro e w7 ⟨rfl, hb7⟩
            have hx7 := HX6.out.below hb7
            have hn7 := HN6.out.below hb7
            have ho7 : Own w7 _ _ _ _ := Own.keep HO6.out hb7
            have hne : (Value.slice A5 a2.length c5).ownBlock ≠ some nbx := ho7.lt (.inl HLT.out)
            have HO8 := Lib.hid ((ho7.other (i := 0) (y := .int .i64 (m : Int)) hne).other (i := 1) (y := .slice A5 a2.length c5) hne)
            have HX8 := Lib.hid ((hx7.set 0 (.int .i64 (m : Int))).set 1 (.slice A5 a2.length c5))
            have HB8 := Lib.hid (((HB6.out.trans (hb7.mono HB6.out.size)).setCell (p := ⟨nbx, 0, none⟩) HW2.out (.int .i64 (m : Int))).setCell (p := ⟨nbx, 1, none⟩) HW2.out (.slice A5 a2.length c5))
            clear x0 x1 n0 n1
            obtain ⟨x0, x1⟩ := hx7.k2
            obtain ⟨n0, n1⟩ := hn7.k2
            obtain ⟨f0, f1⟩ := hx7.f2
            clear hb7 hx7 hn7 ho7 hne HX6 HN6 HO6 HSA6 HB6
            cases hsb : subR (m : Int) a2 (m : Int) a with
            | true =>
              have HT := Lib.hid (show StI (m + 1) a2 ch from by have h := HST.out; rw [if_pos hsb] at h; exact h)
              clear hsb
              go_wp2_with fail
              go_roundw
              case rel => exact ⟨i + 1, ch, a2, A5, c5, by omega, by go_num, rfl, by omega, Lib.hid (.inr ⟨m, rfl, by omega, by omega, HA2.out, HT.out⟩), HL2.out, HX8, Lib.hid (Own.sl HO8.out), HB8⟩
              case measure => simp [intOf]; omega
            | false =>
              have HT := Lib.hid (show StI (m + 1) a2 (ch + 1) from by have h := HST.out; rw [if_neg (by rw [hsb]; decide)] at h; exact h)
              clear hsb
              go_wp2_with fail
              go_roundw
              case rel => exact ⟨i + 1, ch + 1, a2, A5, c5, by omega, by go_num, by go_num, by omega, Lib.hid (.inr ⟨m, rfl, by omega, by omega, HA2.out, HT.out⟩), HL2.out, HX8, Lib.hid (Own.sl HO8.out), HB8⟩
              case measure => simp [intOf]; omega
    · obtain rfl : i = zs.length := by omega
      obtain ⟨m, rfl, hm1, hm3, hza, hst⟩ := HREL.out.late hpos
      have hf := hst.fin
      have hf2 : ((ch : Nat) : Int) ≤ (((m : Int) + 1) * ((m : Int) + 1) + 1) := by
        have : (((m + 1) * (m + 1) + 1 : Nat) : Int) = (((m : Int) + 1) * ((m : Int) + 1) + 1) := by push_cast; rfl
        omega
      have hm4 : m = 1 ∨ m = 2 ∨ m = 3 := by omega
      have HF := Lib.hid hf
      clear hst hza hf hf2
      rcases hm4 with rfl | rfl | rfl <;>
      · go_wp2_with fail
        go_ret
        exact ⟨by show Ending.returned (.bool (decide _)) = _; rw [decide_eq_true (by have := HF.out; omega)], HB.out⟩
end Go.Proofs.Yteoddcamicmapaa
