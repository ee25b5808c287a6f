/- ValueLeast: for every input the law returns true (tools/gen_vlw.py). -/
import Derived.Test.YtnainhpcmoekcaaGreatDoorVaLs
import Derived.Test.YtnainhpcmoekcaaGreatDoorWdo
import Derived.Test.YtnainhpcmoekcaaGreatDoorLaw
namespace Go.Proofs.YtnainhpcmoekcaaGreatDoor
open Go.RowKit

theorem neqc {c : Int} (h : c ≠ 0) : (c != 0) = true := by rw [bne, beq_eq_false_iff_ne.2 h]; rfl
theorem prB_letA (n : Nat) : prB (letA n) = true := by
  unfold prB letA
  rw [List.all_eq_true]
  intro x hx
  rw [List.mem_replicate] at hx
  rw [hx.2]
  decide
theorem ls_ok {k lo hi ak an ae : Int} {sa : Bs} (h : lsR k lo hi = ((ak, an, sa), ae)) : ae ≠ 0 ∨ ae = 0 ∧ fiB k lo hi ak an sa = true ∧ nuI ak an sa = lo := by
  unfold lsR at h
  cases hs : soB k lo hi with
  | false =>
    rw [hs] at h
    simp at h
    exact .inl (by omega)
  | true =>
    rw [hs, if_pos rfl] at h
    by_cases h1 : k = 1
    · subst h1
      rw [if_pos rfl] at h
      simp only [Prod.mk.injEq] at h
      obtain ⟨⟨rfl, rfl, rfl⟩, rfl⟩ := h
      have h2 : -1000 ≤ lo ∧ lo ≤ hi ∧ hi ≤ 1000 := by
        have h3 := hs
        unfold soB at h3
        rw [if_pos rfl, decide_eq_true_iff] at h3
        exact h3
      refine .inr ⟨rfl, ?_, rfl⟩
      unfold fiB
      rw [hs, show vlB 1 lo [] = true by simp [vlB, inB]; omega, show nuI 1 lo [] = lo from rfl, decide_eq_true h2.2.1]
      simp
    · obtain ⟨rfl, h2, h3, h4⟩ := so_kind hs h1
      rw [if_neg h1] at h
      simp only [Prod.mk.injEq] at h
      obtain ⟨⟨rfl, rfl, rfl⟩, rfl⟩ := h
      have h5 : nuI 2 0 (letA lo.toNat) = lo := by
        show ((letA lo.toNat).length : Int) = lo
        rw [letA_len]; omega
      refine .inr ⟨rfl, ?_, h5⟩
      unfold fiB
      rw [hs, show vlB 2 0 (letA lo.toNat) = true by simp [vlB, prB_letA, letA_len]; omega, h5, decide_eq_true h3]
      simp
theorem fi_ge {k lo hi kv n : Int} {s : Bs} (h : fiB k lo hi kv n s = true) : lo ≤ nuI kv n s := by
  unfold fiB at h
  simp only [Bool.and_eq_true, decide_eq_true_iff] at h
  exact h.1.2
set_option maxRecDepth 100000 in
set_option maxHeartbeats 3200000 in
theorem valueleast_walk (k lo hi kv n : Int) (s : Bs) (w : World) : Calls Tryz.prog 5 #[so k lo hi, vl kv n s] w (Tells w (.bool true)) := by
  obtain ⟨⟨⟨ak, an, sa⟩, ae⟩, hr⟩ : ∃ r, lsR k lo hi = r := ⟨_, rfl⟩
  have HL := Lib.hid (fun W => least_any k lo hi W)
  have HRL := Lib.hid (fun W => rleast_any k lo hi W)
  rw [hr] at HL HRL
  dsimp only at HL HRL
  have HOK := Lib.hid (ls_ok hr)
  clear hr
  unfold so vl at *
  go_enter Tryz.func5, Tryz.ntmps5
  go_wp2_with fail
  refine (awake_any _).mono ?_
  rintro e V ⟨rfl, hb⟩
  have HX := Lib.hid (Bx.two (T := 23) (cs := #[.int .i64 k, .int .i64 lo, .int .i64 hi]) rfl hb)
  have HY := Lib.hid (Bx.two' (T := 25) (cs := #[.int .i64 kv, .int .i64 n, .string (ofL s)]) rfl hb)
  have HB := Lib.hid (below_ext2 (al2 w _ _) hb)
  clear hb
  obtain ⟨x0, x1, x2⟩ := HX.out.k3
  go_wp2_with fail
  refine (HL.out _).mono ?_
  rintro e w5 ⟨rfl, hb5⟩
  have HX5 := Lib.hid ((HX.out.below hb5).alloc (.cells #[.int .i64 ak, .int .i64 an, .string (ofL sa)] 25))
  have HY5 := Lib.hid ((HY.out.below hb5).alloc (.cells #[.int .i64 ak, .int .i64 an, .string (ofL sa)] 25))
  have HN5 := Lib.hid (Bx.new w5 25 #[.int .i64 ak, .int .i64 an, .string (ofL sa)])
  have HB5 := Lib.hid (below_ext2 (below_ext2 HB.out hb5) (al1 w5 (.cells #[.int .i64 ak, .int .i64 an, .string (ofL sa)] 25)))
  clear hb5 x0 x1 x2 HX HY HB
  obtain ⟨x0, x1, x2⟩ := HX5.out.k3
  go_wp2_with fail
  refine (HRL.out _).mono ?_
  rintro e w6 ⟨rfl, hb6⟩
  have HX7 := Lib.hid ((HX5.out.below hb6).alloc (.cells #[.int .i64 ak, .int .i64 an, .string (ofL sa)] 25))
  have HY7 := Lib.hid ((HY5.out.below hb6).alloc (.cells #[.int .i64 ak, .int .i64 an, .string (ofL sa)] 25))
  have HN7 := Lib.hid ((HN5.out.below hb6).alloc (.cells #[.int .i64 ak, .int .i64 an, .string (ofL sa)] 25))
  have HM7 := Lib.hid (Bx.new w6 25 #[.int .i64 ak, .int .i64 an, .string (ofL sa)])
  have HB7 := Lib.hid (below_ext2 (below_ext2 HB5.out hb6) (al1 w6 (.cells #[.int .i64 ak, .int .i64 an, .string (ofL sa)] 25)))
  obtain ⟨nb, hnb⟩ : ∃ nb, nb = w5.heap.size := ⟨_, rfl⟩
  rw [← hnb] at HN7 ⊢
  clear hb6 hnb x0 x1 x2 HX5 HY5 HN5 HB5 HL HRL
  obtain ⟨y0, y1, y2⟩ := HN7.out.k3
  obtain ⟨z0, z1, z2⟩ := HM7.out.k3
  go_wp2_with fail
  obtain ⟨W, hW⟩ : ∃ W, W = w6.alloc (.cells #[.int .i64 ak, .int .i64 an, .string (ofL sa)] 25) := ⟨_, rfl⟩
  rw [← hW] at HX7 HY7 HN7 HB7 ⊢
  clear hW y0 y1 y2 z0 z1 z2 HM7
  rcases HOK.out with hne | ⟨rfl, hf1, hn2⟩
  · have g2 := neqc hne
    clear hne HOK
    refine region_phi (n := 49) (Wd [(false, .int .i64 ae),
        (false, .bool true),
        (false, .bool true),
        (true, undef),
        (true, undef),
        (true, undef),
        (false, undef),
        (false, undef),
        (false, undef),
        (false, undef),
        (false, undef),
        (false, undef),
        (false, undef),
        (false, undef),
        (false, undef),
        (false, undef),
        (false, undef),
        (false, undef),
        (true, undef),
        (false, .bool true),
        (false, .bool true)]) (by kernel_rfl) (by kernel_rfl) rfl (fun _ _ _ _ h _ => h) (allOps_spec ?_) ?_
    · refine ⟨?_, ?_, ?_, ?_, ?_, ?_, ?_, ?_, ?_, ?_, ?_, ?_, ?_, ?_, ?_, ?_, ?_, ?_, ?_, ?_, ?_, trivial⟩
      · intro ac w' hb hp
        have b6 : ac.tmps[6]?.getD undef = .int .i64 ae := hb.at 6 (by kernel_rfl)
        exact wd_run rfl rfl (by simp [execOp, go_sem, Act.eval, b6])
      · exact fun ac w' hb hp => wd_run rfl rfl (by simp [execOp, go_sem, Act.eval, wd_get (hp ⟨0, .data⟩ (by simp) rfl _ rfl) rfl rfl, g2])
      · exact fun ac w' hb hp => wd_run rfl rfl (by simp [execOp, go_sem, Act.eval, wd_get (hp ⟨1, .data⟩ (by simp) rfl _ rfl) rfl rfl])
      · intro ac w' hb hp
        have gg := wd_get (hp ⟨2, .guard⟩ (by simp) rfl _ rfl) rfl rfl
        exact wd_off rfl rfl (by simp [Region.wanted, yielded, bool_at gg])
      · intro ac w' hb hp
        have gg := wd_get (hp ⟨2, .guard⟩ (by simp) rfl _ rfl) rfl rfl
        exact wd_off rfl rfl (by simp [Region.wanted, yielded, bool_at gg])
      · intro ac w' hb hp
        have gg := wd_get (hp ⟨2, .guard⟩ (by simp) rfl _ rfl) rfl rfl
        exact wd_off rfl rfl (by simp [Region.wanted, yielded, bool_at gg])
      · intro ac w' hb hp
        have gg := wd_get (hp ⟨2, .guard⟩ (by simp) rfl _ rfl) rfl rfl
        exact wd_offd rfl (by simp [Region.wanted, yielded, bool_at gg])
      · intro ac w' hb hp
        have gg := wd_get (hp ⟨6, .guard⟩ (by simp) rfl _ rfl) rfl rfl
        exact wd_offu rfl rfl rfl gg
      · intro ac w' hb hp
        have gg := wd_get (hp ⟨6, .guard⟩ (by simp) rfl _ rfl) rfl rfl
        exact wd_offu rfl rfl rfl gg
      · intro ac w' hb hp
        have gg := wd_get (hp ⟨6, .guard⟩ (by simp) rfl _ rfl) rfl rfl
        exact wd_offu rfl rfl rfl gg
      · intro ac w' hb hp
        have gg := wd_get (hp ⟨6, .guard⟩ (by simp) rfl _ rfl) rfl rfl
        exact wd_offu rfl rfl rfl gg
      · intro ac w' hb hp
        have gg := wd_get (hp ⟨6, .guard⟩ (by simp) rfl _ rfl) rfl rfl
        exact wd_offu rfl rfl rfl gg
      · intro ac w' hb hp
        have gg := wd_get (hp ⟨11, .guard⟩ (by simp) rfl _ rfl) rfl rfl
        exact wd_offu rfl rfl rfl gg
      · intro ac w' hb hp
        have gg := wd_get (hp ⟨11, .guard⟩ (by simp) rfl _ rfl) rfl rfl
        exact wd_offu rfl rfl rfl gg
      · intro ac w' hb hp
        have gg := wd_get (hp ⟨11, .guard⟩ (by simp) rfl _ rfl) rfl rfl
        exact wd_offu rfl rfl rfl gg
      · intro ac w' hb hp
        have gg := wd_get (hp ⟨11, .guard⟩ (by simp) rfl _ rfl) rfl rfl
        exact wd_offu rfl rfl rfl gg
      · intro ac w' hb hp
        have gg := wd_get (hp ⟨11, .guard⟩ (by simp) rfl _ rfl) rfl rfl
        exact wd_offu rfl rfl rfl gg
      · intro ac w' hb hp
        have gg := wd_get (hp ⟨6, .guard⟩ (by simp) rfl _ rfl) rfl rfl
        exact wd_offu rfl rfl rfl gg
      · intro ac w' hb hp
        have gg := wd_get (hp ⟨2, .guard⟩ (by simp) rfl _ rfl) rfl rfl
        exact wd_off rfl rfl (by simp [Region.wanted, yielded, bool_at gg])
      · exact fun ac w' hb hp => wd_run rfl rfl (by simp [execOp, go_sem, Act.eval, wd_get (hp ⟨2, .data⟩ (by simp) rfl _ rfl) rfl rfl])
      · exact fun ac w' hb hp => wd_run rfl rfl (by simp [execOp, go_sem, Act.eval, wd_get (hp ⟨19, .data⟩ (by simp) rfl _ rfl) rfl rfl])
    · intro vz w9 hext hall
      have HEXT := Lib.hid hext
      have e20 : vz 20 = .bool true := hall 20 (by decide) rfl
      clear hext hall
      simp only [putAll, Act.put, List.setIfInBounds_toArray, List.set_cons_zero, List.set_cons_succ, Nat.zero_add, Nat.reduceAdd, e20]
      clear e20
      have HB9 := Lib.hid (below_ext2 HB7.out HEXT.out)
      go_wp2_with fail
      go_ret
      exact ⟨rfl, HB9.out⟩
  · have HF1 := Lib.hid (show ∀ W, Calls Tryz.prog 19 #[.agg #[.int .i64 k, .int .i64 lo, .int .i64 hi], .agg #[.int .i64 ak, .int .i64 an, .string (ofL sa)]] W (Tells W (.bool true)) from fun W => by have := fits_any k lo hi ak an sa W; rw [hf1] at this; exact this)
    have HN2 := Lib.hid (show ∀ W, Calls Tryz.prog 17 #[.agg #[.int .i64 ak, .int .i64 an, .string (ofL sa)]] W (Tells W (.int .i64 lo)) from fun W => by have := number_any ak an sa W; rw [hn2] at this; exact this)
    clear HOK hf1 hn2
    cases hf2 : fiB k lo hi kv n s with
    | false =>
      have HF2 := Lib.hid (show ∀ W, Calls Tryz.prog 19 #[.agg #[.int .i64 k, .int .i64 lo, .int .i64 hi], .agg #[.int .i64 kv, .int .i64 n, .string (ofL s)]] W (Tells W (.bool false)) from fun W => by have := fits_any k lo hi kv n s W; rw [hf2] at this; exact this)
      clear hf2
      refine region_phi (n := 49) (Wd [(false, .int .i64 0),
          (false, .bool false),
          (false, .bool false),
          (false, .agg #[.int .i64 k, .int .i64 lo, .int .i64 hi]),
          (false, .agg #[.int .i64 ak, .int .i64 an, .string (ofL sa)]),
          (false, .bool true),
          (false, .bool true),
          (false, .agg #[.int .i64 k, .int .i64 lo, .int .i64 hi]),
          (false, .agg #[.int .i64 kv, .int .i64 n, .string (ofL s)]),
          (false, .bool false),
          (false, .bool true),
          (false, .bool true),
          (true, undef),
          (true, undef),
          (true, undef),
          (true, undef),
          (true, undef),
          (false, .bool true),
          (false, .bool true),
          (false, .bool true),
          (false, .bool true)]) (by kernel_rfl) (by kernel_rfl) rfl (fun _ _ _ _ h _ => h) (allOps_spec ?_) ?_
      · refine ⟨?_, ?_, ?_, ?_, ?_, ?_, ?_, ?_, ?_, ?_, ?_, ?_, ?_, ?_, ?_, ?_, ?_, ?_, ?_, ?_, ?_, trivial⟩
        · intro ac w' hb hp
          have b6 : ac.tmps[6]?.getD undef = .int .i64 0 := hb.at 6 (by kernel_rfl)
          exact wd_run rfl rfl (by simp [execOp, go_sem, Act.eval, b6])
        · exact fun ac w' hb hp => wd_run rfl rfl (by simp [execOp, go_sem, Act.eval, wd_get (hp ⟨0, .data⟩ (by simp) rfl _ rfl) rfl rfl])
        · exact fun ac w' hb hp => wd_run rfl rfl (by simp [execOp, go_sem, Act.eval, wd_get (hp ⟨1, .data⟩ (by simp) rfl _ rfl) rfl rfl])
        · intro ac w' hb hp
          have gg := wd_get (hp ⟨2, .guard⟩ (by simp) rfl _ rfl) rfl rfl
          have b2 : ac.tmps[2]?.getD undef = .pointer (some ⟨w.heap.size, 0, none⟩) := hb.at 2 (by kernel_rfl)
          have q0 := (HX7.out.below hb.ext).cell 0
          have q1 := (HX7.out.below hb.ext).cell 1
          have q2 := (HX7.out.below hb.ext).cell 2
          exact wd_run rfl (by simp [Region.wanted, yielded, bool_at gg]) (by simp [execOp, go_sem, Act.eval, b2, q0, q1, q2])
        · intro ac w' hb hp
          have gg := wd_get (hp ⟨2, .guard⟩ (by simp) rfl _ rfl) rfl rfl
          have b5 : ac.tmps[5]?.getD undef = .pointer (some ⟨nb, 0, none⟩) := hb.at 5 (by kernel_rfl)
          have q0 := (HN7.out.below hb.ext).cell 0
          have q1 := (HN7.out.below hb.ext).cell 1
          have q2 := (HN7.out.below hb.ext).cell 2
          exact wd_run rfl (by simp [Region.wanted, yielded, bool_at gg]) (by simp [execOp, go_sem, Act.eval, b5, q0, q1, q2])
        · intro ac w' hb hp
          have gg := wd_get (hp ⟨2, .guard⟩ (by simp) rfl _ rfl) rfl rfl
          refine step_call (f := 19) (args := #[.agg #[.int .i64 k, .int .i64 lo, .int .i64 hi], .agg #[.int .i64 ak, .int .i64 an, .string (ofL sa)]]) (by simp [Region.wanted, yielded, bool_at gg]) (by simp [go_sem, wd_get (hp ⟨3, .data⟩ (by simp) rfl _ rfl) rfl rfl, wd_get (hp ⟨4, .data⟩ (by simp) rfl _ rfl) rfl rfl]) ?_
          exact (HF1.out w').mono fun e w9 h9 => ⟨_, h9.1, h9.2, wd_mk rfl fun _ => rfl⟩
        · intro ac w' hb hp
          have gg := wd_get (hp ⟨2, .guard⟩ (by simp) rfl _ rfl) rfl rfl
          exact wd_run rfl (by simp [Region.wanted, yielded, bool_at gg]) (by simp [execOp, go_sem, Act.eval, wd_get (hp ⟨5, .data⟩ (by simp) rfl _ rfl) rfl rfl])
        · intro ac w' hb hp
          have gg := wd_get (hp ⟨6, .guard⟩ (by simp) rfl _ rfl) rfl rfl
          have b2 : ac.tmps[2]?.getD undef = .pointer (some ⟨w.heap.size, 0, none⟩) := hb.at 2 (by kernel_rfl)
          have q0 := (HX7.out.below hb.ext).cell 0
          have q1 := (HX7.out.below hb.ext).cell 1
          have q2 := (HX7.out.below hb.ext).cell 2
          exact wd_run rfl (by simp [Region.wanted, yielded, bool_at gg]) (by simp [execOp, go_sem, Act.eval, b2, q0, q1, q2])
        · intro ac w' hb hp
          have gg := wd_get (hp ⟨6, .guard⟩ (by simp) rfl _ rfl) rfl rfl
          have b3 : ac.tmps[3]?.getD undef = .pointer (some ⟨w.heap.size + 1, 0, none⟩) := hb.at 3 (by kernel_rfl)
          have q0 := (HY7.out.below hb.ext).cell 0
          have q1 := (HY7.out.below hb.ext).cell 1
          have q2 := (HY7.out.below hb.ext).cell 2
          exact wd_run rfl (by simp [Region.wanted, yielded, bool_at gg]) (by simp [execOp, go_sem, Act.eval, b3, q0, q1, q2])
        · intro ac w' hb hp
          have gg := wd_get (hp ⟨6, .guard⟩ (by simp) rfl _ rfl) rfl rfl
          refine step_call (f := 19) (args := #[.agg #[.int .i64 k, .int .i64 lo, .int .i64 hi], .agg #[.int .i64 kv, .int .i64 n, .string (ofL s)]]) (by simp [Region.wanted, yielded, bool_at gg]) (by simp [go_sem, wd_get (hp ⟨7, .data⟩ (by simp) rfl _ rfl) rfl rfl, wd_get (hp ⟨8, .data⟩ (by simp) rfl _ rfl) rfl rfl]) ?_
          exact (HF2.out w').mono fun e w9 h9 => ⟨_, h9.1, h9.2, wd_mk rfl fun _ => rfl⟩
        · intro ac w' hb hp
          have gg := wd_get (hp ⟨6, .guard⟩ (by simp) rfl _ rfl) rfl rfl
          exact wd_run rfl (by simp [Region.wanted, yielded, bool_at gg]) (by simp [execOp, go_sem, Act.eval, wd_get (hp ⟨9, .data⟩ (by simp) rfl _ rfl) rfl rfl])
        · intro ac w' hb hp
          have gg := wd_get (hp ⟨6, .guard⟩ (by simp) rfl _ rfl) rfl rfl
          exact wd_run rfl (by simp [Region.wanted, yielded, bool_at gg]) (by simp [execOp, go_sem, Act.eval, wd_get (hp ⟨10, .data⟩ (by simp) rfl _ rfl) rfl rfl])
        · intro ac w' hb hp
          have gg := wd_get (hp ⟨11, .guard⟩ (by simp) rfl _ rfl) rfl rfl
          exact wd_off rfl rfl (by simp [Region.wanted, yielded, bool_at gg])
        · intro ac w' hb hp
          have gg := wd_get (hp ⟨11, .guard⟩ (by simp) rfl _ rfl) rfl rfl
          exact wd_off rfl rfl (by simp [Region.wanted, yielded, bool_at gg])
        · intro ac w' hb hp
          have gg := wd_get (hp ⟨11, .guard⟩ (by simp) rfl _ rfl) rfl rfl
          exact wd_off rfl rfl (by simp [Region.wanted, yielded, bool_at gg])
        · intro ac w' hb hp
          have gg := wd_get (hp ⟨11, .guard⟩ (by simp) rfl _ rfl) rfl rfl
          exact wd_off rfl rfl (by simp [Region.wanted, yielded, bool_at gg])
        · intro ac w' hb hp
          have gg := wd_get (hp ⟨11, .guard⟩ (by simp) rfl _ rfl) rfl rfl
          exact wd_off rfl rfl (by simp [Region.wanted, yielded, bool_at gg])
        · intro ac w' hb hp
          have gg := wd_get (hp ⟨6, .guard⟩ (by simp) rfl _ rfl) rfl rfl
          exact wd_run rfl (by simp [Region.wanted, yielded, bool_at gg]) (by simp [execOp, go_sem, Act.eval, wd_get (hp ⟨11, .data⟩ (by simp) rfl _ rfl) rfl rfl])
        · intro ac w' hb hp
          have gg := wd_get (hp ⟨2, .guard⟩ (by simp) rfl _ rfl) rfl rfl
          exact wd_run rfl (by simp [Region.wanted, yielded, bool_at gg]) (by simp [execOp, go_sem, Act.eval, wd_get (hp ⟨6, .data⟩ (by simp) rfl _ rfl) rfl rfl, wd_get (hp ⟨17, .data⟩ (by simp) rfl _ rfl) rfl rfl])
        · exact fun ac w' hb hp => wd_run rfl rfl (by simp [execOp, go_sem, Act.eval, wd_get (hp ⟨2, .data⟩ (by simp) rfl _ rfl) rfl rfl, wd_get (hp ⟨18, .data⟩ (by simp) rfl _ rfl) rfl rfl])
        · exact fun ac w' hb hp => wd_run rfl rfl (by simp [execOp, go_sem, Act.eval, wd_get (hp ⟨19, .data⟩ (by simp) rfl _ rfl) rfl rfl])
      · intro vz w9 hext hall
        have HEXT := Lib.hid hext
        have e20 : vz 20 = .bool true := hall 20 (by decide) rfl
        clear hext hall
        simp only [putAll, Act.put, List.setIfInBounds_toArray, List.set_cons_zero, List.set_cons_succ, Nat.zero_add, Nat.reduceAdd, e20]
        clear e20
        have HB9 := Lib.hid (below_ext2 HB7.out HEXT.out)
        go_wp2_with fail
        go_ret
        exact ⟨rfl, HB9.out⟩
    | true =>
      have HF2 := Lib.hid (show ∀ W, Calls Tryz.prog 19 #[.agg #[.int .i64 k, .int .i64 lo, .int .i64 hi], .agg #[.int .i64 kv, .int .i64 n, .string (ofL s)]] W (Tells W (.bool true)) from fun W => by have := fits_any k lo hi kv n s W; rw [hf2] at this; exact this)
      obtain ⟨n1, hn1⟩ : ∃ n1, n1 = nuI kv n s := ⟨_, rfl⟩
      have HN1 := Lib.hid (show ∀ W, Calls Tryz.prog 17 #[.agg #[.int .i64 kv, .int .i64 n, .string (ofL s)]] W (Tells W (.int .i64 n1)) from fun W => by rw [hn1]; exact number_any kv n s W)
      have HGE := Lib.hid (show lo ≤ n1 by rw [hn1]; exact fi_ge hf2)
      clear hf2 hn1
      refine region_phi (n := 49) (Wd [(false, .int .i64 0),
          (false, .bool false),
          (false, .bool false),
          (false, .agg #[.int .i64 k, .int .i64 lo, .int .i64 hi]),
          (false, .agg #[.int .i64 ak, .int .i64 an, .string (ofL sa)]),
          (false, .bool true),
          (false, .bool true),
          (false, .agg #[.int .i64 k, .int .i64 lo, .int .i64 hi]),
          (false, .agg #[.int .i64 kv, .int .i64 n, .string (ofL s)]),
          (false, .bool true),
          (false, .bool false),
          (false, .bool false),
          (false, .agg #[.int .i64 kv, .int .i64 n, .string (ofL s)]),
          (false, .int .i64 n1),
          (false, .agg #[.int .i64 ak, .int .i64 an, .string (ofL sa)]),
          (false, .int .i64 lo),
          (false, .bool true),
          (false, .bool true),
          (false, .bool true),
          (false, .bool true),
          (false, .bool true)]) (by kernel_rfl) (by kernel_rfl) rfl (fun _ _ _ _ h _ => h) (allOps_spec ?_) ?_
      · refine ⟨?_, ?_, ?_, ?_, ?_, ?_, ?_, ?_, ?_, ?_, ?_, ?_, ?_, ?_, ?_, ?_, ?_, ?_, ?_, ?_, ?_, trivial⟩
        · intro ac w' hb hp
          have b6 : ac.tmps[6]?.getD undef = .int .i64 0 := hb.at 6 (by kernel_rfl)
          exact wd_run rfl rfl (by simp [execOp, go_sem, Act.eval, b6])
        · exact fun ac w' hb hp => wd_run rfl rfl (by simp [execOp, go_sem, Act.eval, wd_get (hp ⟨0, .data⟩ (by simp) rfl _ rfl) rfl rfl])
        · exact fun ac w' hb hp => wd_run rfl rfl (by simp [execOp, go_sem, Act.eval, wd_get (hp ⟨1, .data⟩ (by simp) rfl _ rfl) rfl rfl])
        · intro ac w' hb hp
          have gg := wd_get (hp ⟨2, .guard⟩ (by simp) rfl _ rfl) rfl rfl
          have b2 : ac.tmps[2]?.getD undef = .pointer (some ⟨w.heap.size, 0, none⟩) := hb.at 2 (by kernel_rfl)
          have q0 := (HX7.out.below hb.ext).cell 0
          have q1 := (HX7.out.below hb.ext).cell 1
          have q2 := (HX7.out.below hb.ext).cell 2
          exact wd_run rfl (by simp [Region.wanted, yielded, bool_at gg]) (by simp [execOp, go_sem, Act.eval, b2, q0, q1, q2])
        · intro ac w' hb hp
          have gg := wd_get (hp ⟨2, .guard⟩ (by simp) rfl _ rfl) rfl rfl
          have b5 : ac.tmps[5]?.getD undef = .pointer (some ⟨nb, 0, none⟩) := hb.at 5 (by kernel_rfl)
          have q0 := (HN7.out.below hb.ext).cell 0
          have q1 := (HN7.out.below hb.ext).cell 1
          have q2 := (HN7.out.below hb.ext).cell 2
          exact wd_run rfl (by simp [Region.wanted, yielded, bool_at gg]) (by simp [execOp, go_sem, Act.eval, b5, q0, q1, q2])
        · intro ac w' hb hp
          have gg := wd_get (hp ⟨2, .guard⟩ (by simp) rfl _ rfl) rfl rfl
          refine step_call (f := 19) (args := #[.agg #[.int .i64 k, .int .i64 lo, .int .i64 hi], .agg #[.int .i64 ak, .int .i64 an, .string (ofL sa)]]) (by simp [Region.wanted, yielded, bool_at gg]) (by simp [go_sem, wd_get (hp ⟨3, .data⟩ (by simp) rfl _ rfl) rfl rfl, wd_get (hp ⟨4, .data⟩ (by simp) rfl _ rfl) rfl rfl]) ?_
          exact (HF1.out w').mono fun e w9 h9 => ⟨_, h9.1, h9.2, wd_mk rfl fun _ => rfl⟩
        · intro ac w' hb hp
          have gg := wd_get (hp ⟨2, .guard⟩ (by simp) rfl _ rfl) rfl rfl
          exact wd_run rfl (by simp [Region.wanted, yielded, bool_at gg]) (by simp [execOp, go_sem, Act.eval, wd_get (hp ⟨5, .data⟩ (by simp) rfl _ rfl) rfl rfl])
        · intro ac w' hb hp
          have gg := wd_get (hp ⟨6, .guard⟩ (by simp) rfl _ rfl) rfl rfl
          have b2 : ac.tmps[2]?.getD undef = .pointer (some ⟨w.heap.size, 0, none⟩) := hb.at 2 (by kernel_rfl)
          have q0 := (HX7.out.below hb.ext).cell 0
          have q1 := (HX7.out.below hb.ext).cell 1
          have q2 := (HX7.out.below hb.ext).cell 2
          exact wd_run rfl (by simp [Region.wanted, yielded, bool_at gg]) (by simp [execOp, go_sem, Act.eval, b2, q0, q1, q2])
        · intro ac w' hb hp
          have gg := wd_get (hp ⟨6, .guard⟩ (by simp) rfl _ rfl) rfl rfl
          have b3 : ac.tmps[3]?.getD undef = .pointer (some ⟨w.heap.size + 1, 0, none⟩) := hb.at 3 (by kernel_rfl)
          have q0 := (HY7.out.below hb.ext).cell 0
          have q1 := (HY7.out.below hb.ext).cell 1
          have q2 := (HY7.out.below hb.ext).cell 2
          exact wd_run rfl (by simp [Region.wanted, yielded, bool_at gg]) (by simp [execOp, go_sem, Act.eval, b3, q0, q1, q2])
        · intro ac w' hb hp
          have gg := wd_get (hp ⟨6, .guard⟩ (by simp) rfl _ rfl) rfl rfl
          refine step_call (f := 19) (args := #[.agg #[.int .i64 k, .int .i64 lo, .int .i64 hi], .agg #[.int .i64 kv, .int .i64 n, .string (ofL s)]]) (by simp [Region.wanted, yielded, bool_at gg]) (by simp [go_sem, wd_get (hp ⟨7, .data⟩ (by simp) rfl _ rfl) rfl rfl, wd_get (hp ⟨8, .data⟩ (by simp) rfl _ rfl) rfl rfl]) ?_
          exact (HF2.out w').mono fun e w9 h9 => ⟨_, h9.1, h9.2, wd_mk rfl fun _ => rfl⟩
        · intro ac w' hb hp
          have gg := wd_get (hp ⟨6, .guard⟩ (by simp) rfl _ rfl) rfl rfl
          exact wd_run rfl (by simp [Region.wanted, yielded, bool_at gg]) (by simp [execOp, go_sem, Act.eval, wd_get (hp ⟨9, .data⟩ (by simp) rfl _ rfl) rfl rfl])
        · intro ac w' hb hp
          have gg := wd_get (hp ⟨6, .guard⟩ (by simp) rfl _ rfl) rfl rfl
          exact wd_run rfl (by simp [Region.wanted, yielded, bool_at gg]) (by simp [execOp, go_sem, Act.eval, wd_get (hp ⟨10, .data⟩ (by simp) rfl _ rfl) rfl rfl])
        · intro ac w' hb hp
          have gg := wd_get (hp ⟨11, .guard⟩ (by simp) rfl _ rfl) rfl rfl
          have b3 : ac.tmps[3]?.getD undef = .pointer (some ⟨w.heap.size + 1, 0, none⟩) := hb.at 3 (by kernel_rfl)
          have q0 := (HY7.out.below hb.ext).cell 0
          have q1 := (HY7.out.below hb.ext).cell 1
          have q2 := (HY7.out.below hb.ext).cell 2
          exact wd_run rfl (by simp [Region.wanted, yielded, bool_at gg]) (by simp [execOp, go_sem, Act.eval, b3, q0, q1, q2])
        · intro ac w' hb hp
          have gg := wd_get (hp ⟨11, .guard⟩ (by simp) rfl _ rfl) rfl rfl
          refine step_call (f := 17) (args := #[.agg #[.int .i64 kv, .int .i64 n, .string (ofL s)]]) (by simp [Region.wanted, yielded, bool_at gg]) (by simp [go_sem, wd_get (hp ⟨12, .data⟩ (by simp) rfl _ rfl) rfl rfl]) ?_
          exact (HN1.out w').mono fun e w9 h9 => ⟨_, h9.1, h9.2, wd_mk rfl fun _ => rfl⟩
        · intro ac w' hb hp
          have gg := wd_get (hp ⟨11, .guard⟩ (by simp) rfl _ rfl) rfl rfl
          have b5 : ac.tmps[5]?.getD undef = .pointer (some ⟨nb, 0, none⟩) := hb.at 5 (by kernel_rfl)
          have q0 := (HN7.out.below hb.ext).cell 0
          have q1 := (HN7.out.below hb.ext).cell 1
          have q2 := (HN7.out.below hb.ext).cell 2
          exact wd_run rfl (by simp [Region.wanted, yielded, bool_at gg]) (by simp [execOp, go_sem, Act.eval, b5, q0, q1, q2])
        · intro ac w' hb hp
          have gg := wd_get (hp ⟨11, .guard⟩ (by simp) rfl _ rfl) rfl rfl
          refine step_call (f := 17) (args := #[.agg #[.int .i64 ak, .int .i64 an, .string (ofL sa)]]) (by simp [Region.wanted, yielded, bool_at gg]) (by simp [go_sem, wd_get (hp ⟨14, .data⟩ (by simp) rfl _ rfl) rfl rfl]) ?_
          exact (HN2.out w').mono fun e w9 h9 => ⟨_, h9.1, h9.2, wd_mk rfl fun _ => rfl⟩
        · intro ac w' hb hp
          have gg := wd_get (hp ⟨11, .guard⟩ (by simp) rfl _ rfl) rfl rfl
          exact wd_run rfl (by simp [Region.wanted, yielded, bool_at gg]) (by simp [execOp, go_sem, Act.eval, wd_get (hp ⟨13, .data⟩ (by simp) rfl _ rfl) rfl rfl, wd_get (hp ⟨15, .data⟩ (by simp) rfl _ rfl) rfl rfl, HGE.out])
        · intro ac w' hb hp
          have gg := wd_get (hp ⟨6, .guard⟩ (by simp) rfl _ rfl) rfl rfl
          exact wd_run rfl (by simp [Region.wanted, yielded, bool_at gg]) (by simp [execOp, go_sem, Act.eval, wd_get (hp ⟨11, .data⟩ (by simp) rfl _ rfl) rfl rfl, wd_get (hp ⟨16, .data⟩ (by simp) rfl _ rfl) rfl rfl])
        · intro ac w' hb hp
          have gg := wd_get (hp ⟨2, .guard⟩ (by simp) rfl _ rfl) rfl rfl
          exact wd_run rfl (by simp [Region.wanted, yielded, bool_at gg]) (by simp [execOp, go_sem, Act.eval, wd_get (hp ⟨6, .data⟩ (by simp) rfl _ rfl) rfl rfl, wd_get (hp ⟨17, .data⟩ (by simp) rfl _ rfl) rfl rfl])
        · exact fun ac w' hb hp => wd_run rfl rfl (by simp [execOp, go_sem, Act.eval, wd_get (hp ⟨2, .data⟩ (by simp) rfl _ rfl) rfl rfl, wd_get (hp ⟨18, .data⟩ (by simp) rfl _ rfl) rfl rfl])
        · exact fun ac w' hb hp => wd_run rfl rfl (by simp [execOp, go_sem, Act.eval, wd_get (hp ⟨19, .data⟩ (by simp) rfl _ rfl) rfl rfl])
      · intro vz w9 hext hall
        have HEXT := Lib.hid hext
        have e20 : vz 20 = .bool true := hall 20 (by decide) rfl
        clear hext hall
        simp only [putAll, Act.put, List.setIfInBounds_toArray, List.set_cons_zero, List.set_cons_succ, Nat.zero_add, Nat.reduceAdd, e20]
        clear e20
        have HB9 := Lib.hid (below_ext2 HB7.out HEXT.out)
        go_wp2_with fail
        go_ret
        exact ⟨rfl, HB9.out⟩
end Go.Proofs.YtnainhpcmoekcaaGreatDoor
