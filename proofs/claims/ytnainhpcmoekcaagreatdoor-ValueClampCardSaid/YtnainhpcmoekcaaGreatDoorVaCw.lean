/- ValueClamp: for every input the law returns true (tools/gen_vcw.py). -/
import Derived.Test.YtnainhpcmoekcaaGreatDoorVaCt
import Derived.Test.YtnainhpcmoekcaaGreatDoorVaLw
namespace Go.Proofs.YtnainhpcmoekcaaGreatDoor
open Go.RowKit

theorem clT_len (lo hi : Int) (s : Bs) (h1 : lo ≤ hi) (h0 : 0 ≤ lo) : lo ≤ ((clT lo hi s).length : Int) ∧ ((clT lo hi s).length : Int) ≤ hi := by
  unfold clT
  rw [List.length_append, letA_len]
  have := List.length_take (i := (min (s.length : Int) hi).toNat) (l := s)
  omega
theorem clT_id {lo hi : Int} {s : Bs} (h1 : lo ≤ (s.length : Int)) (h2 : (s.length : Int) ≤ hi) : clT lo hi s = s := by
  have e : (min (s.length : Int) hi).toNat = s.length := by omega
  unfold clT
  rw [e, List.take_length, show (lo - (s.length : Int)).toNat = 0 by omega]
  simp [letA]
theorem clT_pr {lo hi : Int} {s : Bs} (h : prB s = true) : prB (clT lo hi s) = true := by
  have h2 := prB_letA (lo - ((s.take (min (s.length : Int) hi).toNat).length : Int)).toNat
  unfold clT
  unfold prB at *
  rw [List.all_append, h2, Bool.and_true]
  rw [List.all_eq_true] at h ⊢
  exact fun x hx => h x (List.mem_of_mem_take hx)
theorem fi_iff {k lo hi kv n : Int} {s : Bs} (h1 : soB k lo hi = true) (h2 : vlB kv n s = true) (h3 : k = kv) : fiB k lo hi kv n s = true ↔ lo ≤ nuI kv n s ∧ nuI kv n s ≤ hi := by
  unfold fiB
  rw [h1, h2, decide_eq_true h3]
  simp
theorem cl_ok {k lo hi kv n ak an ae : Int} {s sa : Bs} (h : clR k lo hi kv n s = ((ak, an, sa), ae)) :
    (ae ≠ 0 ∧ ak = 0 ∧ an = 0 ∧ sa = []) ∨ (ae = 0 ∧ ak = kv ∧ fiB k lo hi ak an sa = true ∧ clR k lo hi ak an sa = ((ak, an, sa), 0) ∧ (fiB k lo hi kv n s = true ↔ an = n ∧ sa = s)) := by
  unfold clR at h
  by_cases c : soB k lo hi = true ∧ vlB kv n s = true
  · rw [if_pos c] at h
    by_cases hk : k = kv
    · subst hk
      rw [if_pos rfl] at h
      by_cases h1 : k = 1
      · subst h1
        rw [if_pos rfl] at h
        simp only [Prod.mk.injEq] at h
        obtain ⟨⟨rfl, rfl, rfl⟩, rfl⟩ := h
        obtain ⟨rfl, hn⟩ := vl_one c.2
        have h2 : -1000 ≤ lo ∧ lo ≤ hi ∧ hi ≤ 1000 := by
          have h3 := c.1
          unfold soB at h3
          rw [if_pos rfl, decide_eq_true_iff] at h3
          exact h3
        have hv : vlB 1 (min (max n lo) hi) [] = true := by
          unfold vlB inB
          rw [if_pos rfl, Bool.and_eq_true, decide_eq_true_iff, decide_eq_true_iff]
          exact ⟨rfl, by omega⟩
        refine .inr ⟨rfl, rfl, (fi_iff c.1 hv rfl).2 ?_, ?_, (fi_iff c.1 c.2 rfl).trans ?_⟩
        · show lo ≤ min (max n lo) hi ∧ min (max n lo) hi ≤ hi
          omega
        · unfold clR
          rw [if_pos ⟨c.1, hv⟩, if_pos rfl, if_pos rfl, show min (max (min (max n lo) hi) lo) hi = min (max n lo) hi by omega]
        · show lo ≤ n ∧ n ≤ hi ↔ _
          constructor
          · intro h4; exact ⟨by omega, rfl⟩
          · intro h4; omega
      · rw [if_neg h1] at h
        obtain ⟨rfl, h2, h3, h4⟩ := so_kind c.1 h1
        obtain ⟨rfl, h5, h6⟩ := vl_two c.2
        simp only [Prod.mk.injEq] at h
        obtain ⟨⟨rfl, rfl, rfl⟩, rfl⟩ := h
        have h7 := clT_len lo hi s h3 h2
        have hv : vlB 2 0 (clT lo hi s) = true := by
          unfold vlB
          rw [if_neg (by decide), if_pos rfl, Bool.and_eq_true, Bool.and_eq_true, decide_eq_true_iff, decide_eq_true_iff]
          exact ⟨⟨rfl, by omega⟩, clT_pr h6⟩
        refine .inr ⟨rfl, rfl, (fi_iff c.1 hv rfl).2 h7, ?_, (fi_iff c.1 c.2 rfl).trans ?_⟩
        · unfold clR
          rw [if_pos ⟨c.1, hv⟩, if_pos rfl, if_neg h1, clT_id h7.1 h7.2]
        · show lo ≤ (s.length : Int) ∧ (s.length : Int) ≤ hi ↔ _
          constructor
          · intro h8; exact ⟨rfl, clT_id h8.1 h8.2⟩
          · intro h8; rw [h8.2] at h7; exact h7
    · rw [if_neg hk] at h
      simp only [Prod.mk.injEq] at h
      exact .inl ⟨by omega, h.1.1.symm, h.1.2.1.symm, h.1.2.2.symm⟩
  · rw [if_neg c] at h
    simp only [Prod.mk.injEq] at h
    exact .inl ⟨by omega, h.1.1.symm, h.1.2.1.symm, h.1.2.2.symm⟩
set_option maxRecDepth 100000 in
set_option maxHeartbeats 3200000 in
theorem valueclamp_walk (k lo hi kv n : Int) (s : Bs) (w : World) : Calls Tryz.prog 6 #[so k lo hi, vl kv n s] w (Tells w (.bool true)) := by
  obtain ⟨⟨⟨ak, an, sa⟩, ae⟩, hr⟩ : ∃ r, clR k lo hi kv n s = r := ⟨_, rfl⟩
  have HL := Lib.hid (fun W => clamp_any k lo hi kv n s W)
  have HRL := Lib.hid (fun W => rclamp_any k lo hi kv n s W)
  rw [hr] at HL HRL
  dsimp only at HL HRL
  have HOK := Lib.hid (cl_ok hr)
  clear hr
  unfold so vl at *
  go_enter Tryz.func6, Tryz.ntmps6
  go_wp2_with fail
  refine (awake_any _).mono ?_
  rintro e V ⟨rfl, hb⟩
  have HX := Lib.hid (Bx.two (T := 23) (cs := #[.int .i64 k, .int .i64 lo, .int .i64 hi]) rfl hb)
  have HY := Lib.hid (Bx.two' (T := 25) (cs := #[.int .i64 kv, .int .i64 n, .string (ofL s)]) rfl hb)
  have HB := Lib.hid (below_ext2 (al2 w _ _) hb)
  clear hb
  obtain ⟨x0, x1, x2⟩ := HX.out.k3
  obtain ⟨v0, v1, v2⟩ := HY.out.k3
  go_wp2_with fail
  refine (HL.out _).mono ?_
  rintro e w5 ⟨rfl, hb5⟩
  have HX5 := Lib.hid ((HX.out.below hb5).alloc (.cells #[.int .i64 ak, .int .i64 an, .string (ofL sa)] 25))
  have HY5 := Lib.hid ((HY.out.below hb5).alloc (.cells #[.int .i64 ak, .int .i64 an, .string (ofL sa)] 25))
  have HN5 := Lib.hid (Bx.new w5 25 #[.int .i64 ak, .int .i64 an, .string (ofL sa)])
  have HB5 := Lib.hid (below_ext2 (below_ext2 HB.out hb5) (al1 w5 (.cells #[.int .i64 ak, .int .i64 an, .string (ofL sa)] 25)))
  clear hb5 x0 x1 x2 v0 v1 v2 HX HY HB
  obtain ⟨x0, x1, x2⟩ := HX5.out.k3
  obtain ⟨v0, v1, v2⟩ := HY5.out.k3
  go_wp2_with fail
  refine (HRL.out _).mono ?_
  rintro e w6 ⟨rfl, hb6⟩
  have HX7 := Lib.hid ((HX5.out.below hb6).alloc (.cells #[.int .i64 ak, .int .i64 an, .string (ofL sa)] 25))
  have HY7 := Lib.hid ((HY5.out.below hb6).alloc (.cells #[.int .i64 ak, .int .i64 an, .string (ofL sa)] 25))
  have HN7 := Lib.hid ((HN5.out.below hb6).alloc (.cells #[.int .i64 ak, .int .i64 an, .string (ofL sa)] 25))
  have HM7 := Lib.hid (Bx.new w6 25 #[.int .i64 ak, .int .i64 an, .string (ofL sa)])
  have HB7 := Lib.hid (below_ext2 (below_ext2 HB5.out hb6) (al1 w6 (.cells #[.int .i64 ak, .int .i64 an, .string (ofL sa)] 25)))
  obtain ⟨nb, hnb⟩ : ∃ nb, nb = w5.heap.size := ⟨_, rfl⟩
  rw [← hnb] at HN7 ⊢
  clear hb6 hnb x0 x1 x2 v0 v1 v2 HX5 HY5 HN5 HB5 HL HRL
  obtain ⟨y0, y1, y2⟩ := HN7.out.k3
  obtain ⟨z0, z1, z2⟩ := HM7.out.k3
  rcases HOK.out with ⟨hne, rfl, rfl, rfl⟩ | ⟨rfl, rfl, hf1, hcl, hf2⟩
  · have g1 : (ae == 0) = false := beq_eq_false_iff_ne.2 hne
    have g2 := neqc hne
    obtain ⟨e1, e2⟩ := ofL_nil (s := []) rfl
    clear hne HOK
    go_wp2_with fail
    go_ret
    exact ⟨rfl, HB7.out⟩
  · have HCL := Lib.hid (show ∀ W, Calls Tryz.prog 25 #[.agg #[.int .i64 k, .int .i64 lo, .int .i64 hi], .agg #[.int .i64 ak, .int .i64 an, .string (ofL sa)]] W (Tells W (.tuple #[.agg #[.int .i64 ak, .int .i64 an, .string (ofL sa)], .int .i64 0])) from fun W => by have := clamp_any k lo hi ak an sa W; rw [hcl] at this; exact this)
    have HF1 := Lib.hid (show ∀ W, Calls Tryz.prog 19 #[.agg #[.int .i64 k, .int .i64 lo, .int .i64 hi], .agg #[.int .i64 ak, .int .i64 an, .string (ofL sa)]] W (Tells W (.bool true)) from fun W => by have := fits_any k lo hi ak an sa W; rw [hf1] at this; exact this)
    have HFI := Lib.hid hf2
    obtain ⟨x0, x1, x2⟩ := HX7.out.k3
    clear HOK hf1 hcl hf2
    go_wp2_with fail
    refine (HCL.out _).mono ?_
    rintro e w8 ⟨rfl, hb8⟩
    have HX9 := Lib.hid ((HX7.out.below hb8).alloc (.cells #[.int .i64 ak, .int .i64 an, .string (ofL sa)] 25))
    have HY9 := Lib.hid ((HY7.out.below hb8).alloc (.cells #[.int .i64 ak, .int .i64 an, .string (ofL sa)] 25))
    have HN9 := Lib.hid ((HN7.out.below hb8).alloc (.cells #[.int .i64 ak, .int .i64 an, .string (ofL sa)] 25))
    have HG9 := Lib.hid (Bx.new w8 25 #[.int .i64 ak, .int .i64 an, .string (ofL sa)])
    have HB9 := Lib.hid (below_ext2 (below_ext2 HB7.out hb8) (al1 w8 (.cells #[.int .i64 ak, .int .i64 an, .string (ofL sa)] 25)))
    clear hb8 x0 x1 x2 y0 y1 y2 z0 z1 z2 HX7 HY7 HN7 HM7 HB7
    go_wp2_with fail
    obtain ⟨W, hW⟩ : ∃ W, W = w8.alloc (.cells #[.int .i64 ak, .int .i64 an, .string (ofL sa)] 25) := ⟨_, rfl⟩
    obtain ⟨mb, hmb⟩ : ∃ mb, mb = w8.heap.size := ⟨_, rfl⟩
    rw [← hW] at HX9 HY9 HN9 HG9 HB9 ⊢
    rw [← hmb] at HG9 ⊢
    clear hW hmb
    cases hf2 : fiB k lo hi ak n s with
    | true =>
      obtain ⟨rfl, rfl⟩ := HFI.out.1 hf2
      clear hf2 HFI HCL
      have HF2 := HF1
      refine region_phi (n := 65) (Wd [(false, .agg #[.int .i64 k, .int .i64 lo, .int .i64 hi]),
          (false, .agg #[.int .i64 ak, .int .i64 an, .string (ofL sa)]),
          (false, .bool true),
          (false, .bool true),
          (false, .int .i64 0),
          (false, .bool true),
          (false, .bool true),
          (false, .bool true),
          (false, .agg #[.int .i64 ak, .int .i64 an, .string (ofL sa)]),
          (false, .agg #[.int .i64 ak, .int .i64 an, .string (ofL sa)]),
          (false, .bool true),
          (false, .bool true),
          (false, .bool true),
          (false, .agg #[.int .i64 k, .int .i64 lo, .int .i64 hi]),
          (false, .agg #[.int .i64 ak, .int .i64 an, .string (ofL sa)]),
          (false, .bool true),
          (false, .agg #[.int .i64 ak, .int .i64 an, .string (ofL sa)]),
          (false, .agg #[.int .i64 ak, .int .i64 an, .string (ofL sa)]),
          (false, .bool true),
          (false, .bool true),
          (false, .bool true),
          (false, .bool true)]) (by kernel_rfl) (by kernel_rfl) rfl (fun _ _ _ _ h _ => h) (allOps_spec ?_) ?_
      · refine ⟨?_, ?_, ?_, ?_, ?_, ?_, ?_, ?_, ?_, ?_, ?_, ?_, ?_, ?_, ?_, ?_, ?_, ?_, ?_, ?_, ?_, ?_, trivial⟩
        · intro ac w' hb hp
          have b2 : ac.tmps[2]?.getD undef = .pointer (some ⟨w.heap.size, 0, none⟩) := hb.at 2 (by kernel_rfl)
          have q0 := (HX9.out.below hb.ext).cell 0
          have q1 := (HX9.out.below hb.ext).cell 1
          have q2 := (HX9.out.below hb.ext).cell 2
          exact wd_run rfl rfl (by simp [execOp, go_sem, Act.eval, b2, q0, q1, q2])
        · intro ac w' hb hp
          have b5 : ac.tmps[5]?.getD undef = .pointer (some ⟨nb, 0, none⟩) := hb.at 5 (by kernel_rfl)
          have q0 := (HN9.out.below hb.ext).cell 0
          have q1 := (HN9.out.below hb.ext).cell 1
          have q2 := (HN9.out.below hb.ext).cell 2
          exact wd_run rfl rfl (by simp [execOp, go_sem, Act.eval, b5, q0, q1, q2])
        · intro ac w' hb hp
          refine step_call (f := 19) (args := #[.agg #[.int .i64 k, .int .i64 lo, .int .i64 hi], .agg #[.int .i64 ak, .int .i64 an, .string (ofL sa)]]) rfl (by simp [go_sem, wd_get (hp ⟨0, .data⟩ (by simp) rfl _ rfl) rfl rfl, wd_get (hp ⟨1, .data⟩ (by simp) rfl _ rfl) rfl rfl]) ?_
          exact (HF1.out w').mono fun e w9 h9 => ⟨_, h9.1, h9.2, wd_mk rfl fun _ => rfl⟩
        · exact fun ac w' hb hp => wd_run rfl rfl (by simp [execOp, go_sem, Act.eval, wd_get (hp ⟨2, .data⟩ (by simp) rfl _ rfl) rfl rfl])
        · intro ac w' hb hp
          have gg := wd_get (hp ⟨3, .guard⟩ (by simp) rfl _ rfl) rfl rfl
          have b10 : ac.tmps[10]?.getD undef = .int .i64 0 := hb.at 10 (by kernel_rfl)
          exact wd_run rfl (by simp [Region.wanted, yielded, bool_at gg]) (by simp [execOp, go_sem, Act.eval, b10])
        · intro ac w' hb hp
          have gg := wd_get (hp ⟨3, .guard⟩ (by simp) rfl _ rfl) rfl rfl
          exact wd_run rfl (by simp [Region.wanted, yielded, bool_at gg]) (by simp [execOp, go_sem, Act.eval, wd_get (hp ⟨4, .data⟩ (by simp) rfl _ rfl) rfl rfl])
        · exact fun ac w' hb hp => wd_run rfl rfl (by simp [execOp, go_sem, Act.eval, wd_get (hp ⟨3, .data⟩ (by simp) rfl _ rfl) rfl rfl, wd_get (hp ⟨5, .data⟩ (by simp) rfl _ rfl) rfl rfl])
        · exact fun ac w' hb hp => wd_run rfl rfl (by simp [execOp, go_sem, Act.eval, wd_get (hp ⟨6, .data⟩ (by simp) rfl _ rfl) rfl rfl])
        · intro ac w' hb hp
          have gg := wd_get (hp ⟨7, .guard⟩ (by simp) rfl _ rfl) rfl rfl
          have b9 : ac.tmps[9]?.getD undef = .pointer (some ⟨mb, 0, none⟩) := hb.at 9 (by kernel_rfl)
          have q0 := (HG9.out.below hb.ext).cell 0
          have q1 := (HG9.out.below hb.ext).cell 1
          have q2 := (HG9.out.below hb.ext).cell 2
          exact wd_run rfl (by simp [Region.wanted, yielded, bool_at gg]) (by simp [execOp, go_sem, Act.eval, b9, q0, q1, q2])
        · intro ac w' hb hp
          have gg := wd_get (hp ⟨7, .guard⟩ (by simp) rfl _ rfl) rfl rfl
          have b5 : ac.tmps[5]?.getD undef = .pointer (some ⟨nb, 0, none⟩) := hb.at 5 (by kernel_rfl)
          have q0 := (HN9.out.below hb.ext).cell 0
          have q1 := (HN9.out.below hb.ext).cell 1
          have q2 := (HN9.out.below hb.ext).cell 2
          exact wd_run rfl (by simp [Region.wanted, yielded, bool_at gg]) (by simp [execOp, go_sem, Act.eval, b5, q0, q1, q2])
        · intro ac w' hb hp
          have gg := wd_get (hp ⟨7, .guard⟩ (by simp) rfl _ rfl) rfl rfl
          exact wd_run rfl (by simp [Region.wanted, yielded, bool_at gg]) (by simp [execOp, go_sem, Act.eval, wd_get (hp ⟨8, .data⟩ (by simp) rfl _ rfl) rfl rfl, wd_get (hp ⟨9, .data⟩ (by simp) rfl _ rfl) rfl rfl])
        · exact fun ac w' hb hp => wd_run rfl rfl (by simp [execOp, go_sem, Act.eval, wd_get (hp ⟨7, .data⟩ (by simp) rfl _ rfl) rfl rfl, wd_get (hp ⟨10, .data⟩ (by simp) rfl _ rfl) rfl rfl])
        · exact fun ac w' hb hp => wd_run rfl rfl (by simp [execOp, go_sem, Act.eval, wd_get (hp ⟨11, .data⟩ (by simp) rfl _ rfl) rfl rfl])
        · intro ac w' hb hp
          have gg := wd_get (hp ⟨12, .guard⟩ (by simp) rfl _ rfl) rfl rfl
          have b2 : ac.tmps[2]?.getD undef = .pointer (some ⟨w.heap.size, 0, none⟩) := hb.at 2 (by kernel_rfl)
          have q0 := (HX9.out.below hb.ext).cell 0
          have q1 := (HX9.out.below hb.ext).cell 1
          have q2 := (HX9.out.below hb.ext).cell 2
          exact wd_run rfl (by simp [Region.wanted, yielded, bool_at gg]) (by simp [execOp, go_sem, Act.eval, b2, q0, q1, q2])
        · intro ac w' hb hp
          have gg := wd_get (hp ⟨12, .guard⟩ (by simp) rfl _ rfl) rfl rfl
          have b3 : ac.tmps[3]?.getD undef = .pointer (some ⟨w.heap.size + 1, 0, none⟩) := hb.at 3 (by kernel_rfl)
          have q0 := (HY9.out.below hb.ext).cell 0
          have q1 := (HY9.out.below hb.ext).cell 1
          have q2 := (HY9.out.below hb.ext).cell 2
          exact wd_run rfl (by simp [Region.wanted, yielded, bool_at gg]) (by simp [execOp, go_sem, Act.eval, b3, q0, q1, q2])
        · intro ac w' hb hp
          have gg := wd_get (hp ⟨12, .guard⟩ (by simp) rfl _ rfl) rfl rfl
          refine step_call (f := 19) (args := #[.agg #[.int .i64 k, .int .i64 lo, .int .i64 hi], .agg #[.int .i64 ak, .int .i64 an, .string (ofL sa)]]) (by simp [Region.wanted, yielded, bool_at gg]) (by simp [go_sem, wd_get (hp ⟨13, .data⟩ (by simp) rfl _ rfl) rfl rfl, wd_get (hp ⟨14, .data⟩ (by simp) rfl _ rfl) rfl rfl]) ?_
          exact (HF2.out w').mono fun e w9 h9 => ⟨_, h9.1, h9.2, wd_mk rfl fun _ => rfl⟩
        · intro ac w' hb hp
          have gg := wd_get (hp ⟨12, .guard⟩ (by simp) rfl _ rfl) rfl rfl
          have b5 : ac.tmps[5]?.getD undef = .pointer (some ⟨nb, 0, none⟩) := hb.at 5 (by kernel_rfl)
          have q0 := (HN9.out.below hb.ext).cell 0
          have q1 := (HN9.out.below hb.ext).cell 1
          have q2 := (HN9.out.below hb.ext).cell 2
          exact wd_run rfl (by simp [Region.wanted, yielded, bool_at gg]) (by simp [execOp, go_sem, Act.eval, b5, q0, q1, q2])
        · intro ac w' hb hp
          have gg := wd_get (hp ⟨12, .guard⟩ (by simp) rfl _ rfl) rfl rfl
          have b3 : ac.tmps[3]?.getD undef = .pointer (some ⟨w.heap.size + 1, 0, none⟩) := hb.at 3 (by kernel_rfl)
          have q0 := (HY9.out.below hb.ext).cell 0
          have q1 := (HY9.out.below hb.ext).cell 1
          have q2 := (HY9.out.below hb.ext).cell 2
          exact wd_run rfl (by simp [Region.wanted, yielded, bool_at gg]) (by simp [execOp, go_sem, Act.eval, b3, q0, q1, q2])
        · intro ac w' hb hp
          have gg := wd_get (hp ⟨12, .guard⟩ (by simp) rfl _ rfl) rfl rfl
          exact wd_run rfl (by simp [Region.wanted, yielded, bool_at gg]) (by simp [execOp, go_sem, Act.eval, wd_get (hp ⟨16, .data⟩ (by simp) rfl _ rfl) rfl rfl, wd_get (hp ⟨17, .data⟩ (by simp) rfl _ rfl) rfl rfl])
        · intro ac w' hb hp
          have gg := wd_get (hp ⟨12, .guard⟩ (by simp) rfl _ rfl) rfl rfl
          exact wd_run rfl (by simp [Region.wanted, yielded, bool_at gg]) (by simp [execOp, go_sem, Act.eval, wd_get (hp ⟨15, .data⟩ (by simp) rfl _ rfl) rfl rfl, wd_get (hp ⟨18, .data⟩ (by simp) rfl _ rfl) rfl rfl])
        · exact fun ac w' hb hp => wd_run rfl rfl (by simp [execOp, go_sem, Act.eval, wd_get (hp ⟨12, .data⟩ (by simp) rfl _ rfl) rfl rfl, wd_get (hp ⟨19, .data⟩ (by simp) rfl _ rfl) rfl rfl])
        · exact fun ac w' hb hp => wd_run rfl rfl (by simp [execOp, go_sem, Act.eval, wd_get (hp ⟨20, .data⟩ (by simp) rfl _ rfl) rfl rfl])
      · intro vz w10 hext hall
        have HEXT := Lib.hid hext
        have e21 : vz 21 = .bool true := hall 21 (by decide) rfl
        clear hext hall
        simp only [putAll, Act.put, List.setIfInBounds_toArray, List.set_cons_zero, List.set_cons_succ, Nat.zero_add, Nat.reduceAdd, e21]
        clear e21
        have HB10 := Lib.hid (below_ext2 HB9.out HEXT.out)
        go_wp2_with fail
        go_ret
        exact ⟨rfl, HB10.out⟩
    | false =>
      have HNE := Lib.hid (show ¬ (an = n ∧ sa = s) from fun x => by have := HFI.out.2 x; rw [hf2] at this; cases this)
      have HF2 := Lib.hid (show ∀ W, Calls Tryz.prog 19 #[.agg #[.int .i64 k, .int .i64 lo, .int .i64 hi], .agg #[.int .i64 ak, .int .i64 n, .string (ofL s)]] W (Tells W (.bool false)) from fun W => by have := fits_any k lo hi ak n s W; rw [hf2] at this; exact this)
      clear hf2 HFI HCL
      by_cases hn : an = n
      · have hs : ¬ (ofL sa).toList = (ofL s).toList := by rw [ofL_toList, ofL_toList]; exact fun x => HNE.out ⟨hn, x⟩
        refine region_phi (n := 65) (Wd [(false, .agg #[.int .i64 k, .int .i64 lo, .int .i64 hi]),
            (false, .agg #[.int .i64 ak, .int .i64 an, .string (ofL sa)]),
            (false, .bool true),
            (false, .bool true),
            (false, .int .i64 0),
            (false, .bool true),
            (false, .bool true),
            (false, .bool true),
            (false, .agg #[.int .i64 ak, .int .i64 an, .string (ofL sa)]),
            (false, .agg #[.int .i64 ak, .int .i64 an, .string (ofL sa)]),
            (false, .bool true),
            (false, .bool true),
            (false, .bool true),
            (false, .agg #[.int .i64 k, .int .i64 lo, .int .i64 hi]),
            (false, .agg #[.int .i64 ak, .int .i64 n, .string (ofL s)]),
            (false, .bool false),
            (false, .agg #[.int .i64 ak, .int .i64 an, .string (ofL sa)]),
            (false, .agg #[.int .i64 ak, .int .i64 n, .string (ofL s)]),
            (false, .bool false),
            (false, .bool true),
            (false, .bool true),
            (false, .bool true)]) (by kernel_rfl) (by kernel_rfl) rfl (fun _ _ _ _ h _ => h) (allOps_spec ?_) ?_
        · refine ⟨?_, ?_, ?_, ?_, ?_, ?_, ?_, ?_, ?_, ?_, ?_, ?_, ?_, ?_, ?_, ?_, ?_, ?_, ?_, ?_, ?_, ?_, trivial⟩
          · intro ac w' hb hp
            have b2 : ac.tmps[2]?.getD undef = .pointer (some ⟨w.heap.size, 0, none⟩) := hb.at 2 (by kernel_rfl)
            have q0 := (HX9.out.below hb.ext).cell 0
            have q1 := (HX9.out.below hb.ext).cell 1
            have q2 := (HX9.out.below hb.ext).cell 2
            exact wd_run rfl rfl (by simp [execOp, go_sem, Act.eval, b2, q0, q1, q2])
          · intro ac w' hb hp
            have b5 : ac.tmps[5]?.getD undef = .pointer (some ⟨nb, 0, none⟩) := hb.at 5 (by kernel_rfl)
            have q0 := (HN9.out.below hb.ext).cell 0
            have q1 := (HN9.out.below hb.ext).cell 1
            have q2 := (HN9.out.below hb.ext).cell 2
            exact wd_run rfl rfl (by simp [execOp, go_sem, Act.eval, b5, q0, q1, q2])
          · intro ac w' hb hp
            refine step_call (f := 19) (args := #[.agg #[.int .i64 k, .int .i64 lo, .int .i64 hi], .agg #[.int .i64 ak, .int .i64 an, .string (ofL sa)]]) rfl (by simp [go_sem, wd_get (hp ⟨0, .data⟩ (by simp) rfl _ rfl) rfl rfl, wd_get (hp ⟨1, .data⟩ (by simp) rfl _ rfl) rfl rfl]) ?_
            exact (HF1.out w').mono fun e w9 h9 => ⟨_, h9.1, h9.2, wd_mk rfl fun _ => rfl⟩
          · exact fun ac w' hb hp => wd_run rfl rfl (by simp [execOp, go_sem, Act.eval, wd_get (hp ⟨2, .data⟩ (by simp) rfl _ rfl) rfl rfl])
          · intro ac w' hb hp
            have gg := wd_get (hp ⟨3, .guard⟩ (by simp) rfl _ rfl) rfl rfl
            have b10 : ac.tmps[10]?.getD undef = .int .i64 0 := hb.at 10 (by kernel_rfl)
            exact wd_run rfl (by simp [Region.wanted, yielded, bool_at gg]) (by simp [execOp, go_sem, Act.eval, b10])
          · intro ac w' hb hp
            have gg := wd_get (hp ⟨3, .guard⟩ (by simp) rfl _ rfl) rfl rfl
            exact wd_run rfl (by simp [Region.wanted, yielded, bool_at gg]) (by simp [execOp, go_sem, Act.eval, wd_get (hp ⟨4, .data⟩ (by simp) rfl _ rfl) rfl rfl])
          · exact fun ac w' hb hp => wd_run rfl rfl (by simp [execOp, go_sem, Act.eval, wd_get (hp ⟨3, .data⟩ (by simp) rfl _ rfl) rfl rfl, wd_get (hp ⟨5, .data⟩ (by simp) rfl _ rfl) rfl rfl])
          · exact fun ac w' hb hp => wd_run rfl rfl (by simp [execOp, go_sem, Act.eval, wd_get (hp ⟨6, .data⟩ (by simp) rfl _ rfl) rfl rfl])
          · intro ac w' hb hp
            have gg := wd_get (hp ⟨7, .guard⟩ (by simp) rfl _ rfl) rfl rfl
            have b9 : ac.tmps[9]?.getD undef = .pointer (some ⟨mb, 0, none⟩) := hb.at 9 (by kernel_rfl)
            have q0 := (HG9.out.below hb.ext).cell 0
            have q1 := (HG9.out.below hb.ext).cell 1
            have q2 := (HG9.out.below hb.ext).cell 2
            exact wd_run rfl (by simp [Region.wanted, yielded, bool_at gg]) (by simp [execOp, go_sem, Act.eval, b9, q0, q1, q2])
          · intro ac w' hb hp
            have gg := wd_get (hp ⟨7, .guard⟩ (by simp) rfl _ rfl) rfl rfl
            have b5 : ac.tmps[5]?.getD undef = .pointer (some ⟨nb, 0, none⟩) := hb.at 5 (by kernel_rfl)
            have q0 := (HN9.out.below hb.ext).cell 0
            have q1 := (HN9.out.below hb.ext).cell 1
            have q2 := (HN9.out.below hb.ext).cell 2
            exact wd_run rfl (by simp [Region.wanted, yielded, bool_at gg]) (by simp [execOp, go_sem, Act.eval, b5, q0, q1, q2])
          · intro ac w' hb hp
            have gg := wd_get (hp ⟨7, .guard⟩ (by simp) rfl _ rfl) rfl rfl
            exact wd_run rfl (by simp [Region.wanted, yielded, bool_at gg]) (by simp [execOp, go_sem, Act.eval, wd_get (hp ⟨8, .data⟩ (by simp) rfl _ rfl) rfl rfl, wd_get (hp ⟨9, .data⟩ (by simp) rfl _ rfl) rfl rfl])
          · exact fun ac w' hb hp => wd_run rfl rfl (by simp [execOp, go_sem, Act.eval, wd_get (hp ⟨7, .data⟩ (by simp) rfl _ rfl) rfl rfl, wd_get (hp ⟨10, .data⟩ (by simp) rfl _ rfl) rfl rfl])
          · exact fun ac w' hb hp => wd_run rfl rfl (by simp [execOp, go_sem, Act.eval, wd_get (hp ⟨11, .data⟩ (by simp) rfl _ rfl) rfl rfl])
          · intro ac w' hb hp
            have gg := wd_get (hp ⟨12, .guard⟩ (by simp) rfl _ rfl) rfl rfl
            have b2 : ac.tmps[2]?.getD undef = .pointer (some ⟨w.heap.size, 0, none⟩) := hb.at 2 (by kernel_rfl)
            have q0 := (HX9.out.below hb.ext).cell 0
            have q1 := (HX9.out.below hb.ext).cell 1
            have q2 := (HX9.out.below hb.ext).cell 2
            exact wd_run rfl (by simp [Region.wanted, yielded, bool_at gg]) (by simp [execOp, go_sem, Act.eval, b2, q0, q1, q2])
          · intro ac w' hb hp
            have gg := wd_get (hp ⟨12, .guard⟩ (by simp) rfl _ rfl) rfl rfl
            have b3 : ac.tmps[3]?.getD undef = .pointer (some ⟨w.heap.size + 1, 0, none⟩) := hb.at 3 (by kernel_rfl)
            have q0 := (HY9.out.below hb.ext).cell 0
            have q1 := (HY9.out.below hb.ext).cell 1
            have q2 := (HY9.out.below hb.ext).cell 2
            exact wd_run rfl (by simp [Region.wanted, yielded, bool_at gg]) (by simp [execOp, go_sem, Act.eval, b3, q0, q1, q2])
          · intro ac w' hb hp
            have gg := wd_get (hp ⟨12, .guard⟩ (by simp) rfl _ rfl) rfl rfl
            refine step_call (f := 19) (args := #[.agg #[.int .i64 k, .int .i64 lo, .int .i64 hi], .agg #[.int .i64 ak, .int .i64 n, .string (ofL s)]]) (by simp [Region.wanted, yielded, bool_at gg]) (by simp [go_sem, wd_get (hp ⟨13, .data⟩ (by simp) rfl _ rfl) rfl rfl, wd_get (hp ⟨14, .data⟩ (by simp) rfl _ rfl) rfl rfl]) ?_
            exact (HF2.out w').mono fun e w9 h9 => ⟨_, h9.1, h9.2, wd_mk rfl fun _ => rfl⟩
          · intro ac w' hb hp
            have gg := wd_get (hp ⟨12, .guard⟩ (by simp) rfl _ rfl) rfl rfl
            have b5 : ac.tmps[5]?.getD undef = .pointer (some ⟨nb, 0, none⟩) := hb.at 5 (by kernel_rfl)
            have q0 := (HN9.out.below hb.ext).cell 0
            have q1 := (HN9.out.below hb.ext).cell 1
            have q2 := (HN9.out.below hb.ext).cell 2
            exact wd_run rfl (by simp [Region.wanted, yielded, bool_at gg]) (by simp [execOp, go_sem, Act.eval, b5, q0, q1, q2])
          · intro ac w' hb hp
            have gg := wd_get (hp ⟨12, .guard⟩ (by simp) rfl _ rfl) rfl rfl
            have b3 : ac.tmps[3]?.getD undef = .pointer (some ⟨w.heap.size + 1, 0, none⟩) := hb.at 3 (by kernel_rfl)
            have q0 := (HY9.out.below hb.ext).cell 0
            have q1 := (HY9.out.below hb.ext).cell 1
            have q2 := (HY9.out.below hb.ext).cell 2
            exact wd_run rfl (by simp [Region.wanted, yielded, bool_at gg]) (by simp [execOp, go_sem, Act.eval, b3, q0, q1, q2])
          · intro ac w' hb hp
            have gg := wd_get (hp ⟨12, .guard⟩ (by simp) rfl _ rfl) rfl rfl
            exact wd_run rfl (by simp [Region.wanted, yielded, bool_at gg]) (by simp [execOp, go_sem, Act.eval, wd_get (hp ⟨16, .data⟩ (by simp) rfl _ rfl) rfl rfl, wd_get (hp ⟨17, .data⟩ (by simp) rfl _ rfl) rfl rfl, hn, hs])
          · intro ac w' hb hp
            have gg := wd_get (hp ⟨12, .guard⟩ (by simp) rfl _ rfl) rfl rfl
            exact wd_run rfl (by simp [Region.wanted, yielded, bool_at gg]) (by simp [execOp, go_sem, Act.eval, wd_get (hp ⟨15, .data⟩ (by simp) rfl _ rfl) rfl rfl, wd_get (hp ⟨18, .data⟩ (by simp) rfl _ rfl) rfl rfl])
          · exact fun ac w' hb hp => wd_run rfl rfl (by simp [execOp, go_sem, Act.eval, wd_get (hp ⟨12, .data⟩ (by simp) rfl _ rfl) rfl rfl, wd_get (hp ⟨19, .data⟩ (by simp) rfl _ rfl) rfl rfl])
          · exact fun ac w' hb hp => wd_run rfl rfl (by simp [execOp, go_sem, Act.eval, wd_get (hp ⟨20, .data⟩ (by simp) rfl _ rfl) rfl rfl])
        · intro vz w10 hext hall
          have HEXT := Lib.hid hext
          have e21 : vz 21 = .bool true := hall 21 (by decide) rfl
          clear hext hall
          simp only [putAll, Act.put, List.setIfInBounds_toArray, List.set_cons_zero, List.set_cons_succ, Nat.zero_add, Nat.reduceAdd, e21]
          clear e21
          have HB10 := Lib.hid (below_ext2 HB9.out HEXT.out)
          go_wp2_with fail
          go_ret
          exact ⟨rfl, HB10.out⟩
      · clear HNE
        refine region_phi (n := 65) (Wd [(false, .agg #[.int .i64 k, .int .i64 lo, .int .i64 hi]),
            (false, .agg #[.int .i64 ak, .int .i64 an, .string (ofL sa)]),
            (false, .bool true),
            (false, .bool true),
            (false, .int .i64 0),
            (false, .bool true),
            (false, .bool true),
            (false, .bool true),
            (false, .agg #[.int .i64 ak, .int .i64 an, .string (ofL sa)]),
            (false, .agg #[.int .i64 ak, .int .i64 an, .string (ofL sa)]),
            (false, .bool true),
            (false, .bool true),
            (false, .bool true),
            (false, .agg #[.int .i64 k, .int .i64 lo, .int .i64 hi]),
            (false, .agg #[.int .i64 ak, .int .i64 n, .string (ofL s)]),
            (false, .bool false),
            (false, .agg #[.int .i64 ak, .int .i64 an, .string (ofL sa)]),
            (false, .agg #[.int .i64 ak, .int .i64 n, .string (ofL s)]),
            (false, .bool false),
            (false, .bool true),
            (false, .bool true),
            (false, .bool true)]) (by kernel_rfl) (by kernel_rfl) rfl (fun _ _ _ _ h _ => h) (allOps_spec ?_) ?_
        · refine ⟨?_, ?_, ?_, ?_, ?_, ?_, ?_, ?_, ?_, ?_, ?_, ?_, ?_, ?_, ?_, ?_, ?_, ?_, ?_, ?_, ?_, ?_, trivial⟩
          · intro ac w' hb hp
            have b2 : ac.tmps[2]?.getD undef = .pointer (some ⟨w.heap.size, 0, none⟩) := hb.at 2 (by kernel_rfl)
            have q0 := (HX9.out.below hb.ext).cell 0
            have q1 := (HX9.out.below hb.ext).cell 1
            have q2 := (HX9.out.below hb.ext).cell 2
            exact wd_run rfl rfl (by simp [execOp, go_sem, Act.eval, b2, q0, q1, q2])
          · intro ac w' hb hp
            have b5 : ac.tmps[5]?.getD undef = .pointer (some ⟨nb, 0, none⟩) := hb.at 5 (by kernel_rfl)
            have q0 := (HN9.out.below hb.ext).cell 0
            have q1 := (HN9.out.below hb.ext).cell 1
            have q2 := (HN9.out.below hb.ext).cell 2
            exact wd_run rfl rfl (by simp [execOp, go_sem, Act.eval, b5, q0, q1, q2])
          · intro ac w' hb hp
            refine step_call (f := 19) (args := #[.agg #[.int .i64 k, .int .i64 lo, .int .i64 hi], .agg #[.int .i64 ak, .int .i64 an, .string (ofL sa)]]) rfl (by simp [go_sem, wd_get (hp ⟨0, .data⟩ (by simp) rfl _ rfl) rfl rfl, wd_get (hp ⟨1, .data⟩ (by simp) rfl _ rfl) rfl rfl]) ?_
            exact (HF1.out w').mono fun e w9 h9 => ⟨_, h9.1, h9.2, wd_mk rfl fun _ => rfl⟩
          · exact fun ac w' hb hp => wd_run rfl rfl (by simp [execOp, go_sem, Act.eval, wd_get (hp ⟨2, .data⟩ (by simp) rfl _ rfl) rfl rfl])
          · intro ac w' hb hp
            have gg := wd_get (hp ⟨3, .guard⟩ (by simp) rfl _ rfl) rfl rfl
            have b10 : ac.tmps[10]?.getD undef = .int .i64 0 := hb.at 10 (by kernel_rfl)
            exact wd_run rfl (by simp [Region.wanted, yielded, bool_at gg]) (by simp [execOp, go_sem, Act.eval, b10])
          · intro ac w' hb hp
            have gg := wd_get (hp ⟨3, .guard⟩ (by simp) rfl _ rfl) rfl rfl
            exact wd_run rfl (by simp [Region.wanted, yielded, bool_at gg]) (by simp [execOp, go_sem, Act.eval, wd_get (hp ⟨4, .data⟩ (by simp) rfl _ rfl) rfl rfl])
          · exact fun ac w' hb hp => wd_run rfl rfl (by simp [execOp, go_sem, Act.eval, wd_get (hp ⟨3, .data⟩ (by simp) rfl _ rfl) rfl rfl, wd_get (hp ⟨5, .data⟩ (by simp) rfl _ rfl) rfl rfl])
          · exact fun ac w' hb hp => wd_run rfl rfl (by simp [execOp, go_sem, Act.eval, wd_get (hp ⟨6, .data⟩ (by simp) rfl _ rfl) rfl rfl])
          · intro ac w' hb hp
            have gg := wd_get (hp ⟨7, .guard⟩ (by simp) rfl _ rfl) rfl rfl
            have b9 : ac.tmps[9]?.getD undef = .pointer (some ⟨mb, 0, none⟩) := hb.at 9 (by kernel_rfl)
            have q0 := (HG9.out.below hb.ext).cell 0
            have q1 := (HG9.out.below hb.ext).cell 1
            have q2 := (HG9.out.below hb.ext).cell 2
            exact wd_run rfl (by simp [Region.wanted, yielded, bool_at gg]) (by simp [execOp, go_sem, Act.eval, b9, q0, q1, q2])
          · intro ac w' hb hp
            have gg := wd_get (hp ⟨7, .guard⟩ (by simp) rfl _ rfl) rfl rfl
            have b5 : ac.tmps[5]?.getD undef = .pointer (some ⟨nb, 0, none⟩) := hb.at 5 (by kernel_rfl)
            have q0 := (HN9.out.below hb.ext).cell 0
            have q1 := (HN9.out.below hb.ext).cell 1
            have q2 := (HN9.out.below hb.ext).cell 2
            exact wd_run rfl (by simp [Region.wanted, yielded, bool_at gg]) (by simp [execOp, go_sem, Act.eval, b5, q0, q1, q2])
          · intro ac w' hb hp
            have gg := wd_get (hp ⟨7, .guard⟩ (by simp) rfl _ rfl) rfl rfl
            exact wd_run rfl (by simp [Region.wanted, yielded, bool_at gg]) (by simp [execOp, go_sem, Act.eval, wd_get (hp ⟨8, .data⟩ (by simp) rfl _ rfl) rfl rfl, wd_get (hp ⟨9, .data⟩ (by simp) rfl _ rfl) rfl rfl])
          · exact fun ac w' hb hp => wd_run rfl rfl (by simp [execOp, go_sem, Act.eval, wd_get (hp ⟨7, .data⟩ (by simp) rfl _ rfl) rfl rfl, wd_get (hp ⟨10, .data⟩ (by simp) rfl _ rfl) rfl rfl])
          · exact fun ac w' hb hp => wd_run rfl rfl (by simp [execOp, go_sem, Act.eval, wd_get (hp ⟨11, .data⟩ (by simp) rfl _ rfl) rfl rfl])
          · intro ac w' hb hp
            have gg := wd_get (hp ⟨12, .guard⟩ (by simp) rfl _ rfl) rfl rfl
            have b2 : ac.tmps[2]?.getD undef = .pointer (some ⟨w.heap.size, 0, none⟩) := hb.at 2 (by kernel_rfl)
            have q0 := (HX9.out.below hb.ext).cell 0
            have q1 := (HX9.out.below hb.ext).cell 1
            have q2 := (HX9.out.below hb.ext).cell 2
            exact wd_run rfl (by simp [Region.wanted, yielded, bool_at gg]) (by simp [execOp, go_sem, Act.eval, b2, q0, q1, q2])
          · intro ac w' hb hp
            have gg := wd_get (hp ⟨12, .guard⟩ (by simp) rfl _ rfl) rfl rfl
            have b3 : ac.tmps[3]?.getD undef = .pointer (some ⟨w.heap.size + 1, 0, none⟩) := hb.at 3 (by kernel_rfl)
            have q0 := (HY9.out.below hb.ext).cell 0
            have q1 := (HY9.out.below hb.ext).cell 1
            have q2 := (HY9.out.below hb.ext).cell 2
            exact wd_run rfl (by simp [Region.wanted, yielded, bool_at gg]) (by simp [execOp, go_sem, Act.eval, b3, q0, q1, q2])
          · intro ac w' hb hp
            have gg := wd_get (hp ⟨12, .guard⟩ (by simp) rfl _ rfl) rfl rfl
            refine step_call (f := 19) (args := #[.agg #[.int .i64 k, .int .i64 lo, .int .i64 hi], .agg #[.int .i64 ak, .int .i64 n, .string (ofL s)]]) (by simp [Region.wanted, yielded, bool_at gg]) (by simp [go_sem, wd_get (hp ⟨13, .data⟩ (by simp) rfl _ rfl) rfl rfl, wd_get (hp ⟨14, .data⟩ (by simp) rfl _ rfl) rfl rfl]) ?_
            exact (HF2.out w').mono fun e w9 h9 => ⟨_, h9.1, h9.2, wd_mk rfl fun _ => rfl⟩
          · intro ac w' hb hp
            have gg := wd_get (hp ⟨12, .guard⟩ (by simp) rfl _ rfl) rfl rfl
            have b5 : ac.tmps[5]?.getD undef = .pointer (some ⟨nb, 0, none⟩) := hb.at 5 (by kernel_rfl)
            have q0 := (HN9.out.below hb.ext).cell 0
            have q1 := (HN9.out.below hb.ext).cell 1
            have q2 := (HN9.out.below hb.ext).cell 2
            exact wd_run rfl (by simp [Region.wanted, yielded, bool_at gg]) (by simp [execOp, go_sem, Act.eval, b5, q0, q1, q2])
          · intro ac w' hb hp
            have gg := wd_get (hp ⟨12, .guard⟩ (by simp) rfl _ rfl) rfl rfl
            have b3 : ac.tmps[3]?.getD undef = .pointer (some ⟨w.heap.size + 1, 0, none⟩) := hb.at 3 (by kernel_rfl)
            have q0 := (HY9.out.below hb.ext).cell 0
            have q1 := (HY9.out.below hb.ext).cell 1
            have q2 := (HY9.out.below hb.ext).cell 2
            exact wd_run rfl (by simp [Region.wanted, yielded, bool_at gg]) (by simp [execOp, go_sem, Act.eval, b3, q0, q1, q2])
          · intro ac w' hb hp
            have gg := wd_get (hp ⟨12, .guard⟩ (by simp) rfl _ rfl) rfl rfl
            exact wd_run rfl (by simp [Region.wanted, yielded, bool_at gg]) (by simp [execOp, go_sem, Act.eval, wd_get (hp ⟨16, .data⟩ (by simp) rfl _ rfl) rfl rfl, wd_get (hp ⟨17, .data⟩ (by simp) rfl _ rfl) rfl rfl, hn])
          · intro ac w' hb hp
            have gg := wd_get (hp ⟨12, .guard⟩ (by simp) rfl _ rfl) rfl rfl
            exact wd_run rfl (by simp [Region.wanted, yielded, bool_at gg]) (by simp [execOp, go_sem, Act.eval, wd_get (hp ⟨15, .data⟩ (by simp) rfl _ rfl) rfl rfl, wd_get (hp ⟨18, .data⟩ (by simp) rfl _ rfl) rfl rfl])
          · exact fun ac w' hb hp => wd_run rfl rfl (by simp [execOp, go_sem, Act.eval, wd_get (hp ⟨12, .data⟩ (by simp) rfl _ rfl) rfl rfl, wd_get (hp ⟨19, .data⟩ (by simp) rfl _ rfl) rfl rfl])
          · exact fun ac w' hb hp => wd_run rfl rfl (by simp [execOp, go_sem, Act.eval, wd_get (hp ⟨20, .data⟩ (by simp) rfl _ rfl) rfl rfl])
        · intro vz w10 hext hall
          have HEXT := Lib.hid hext
          have e21 : vz 21 = .bool true := hall 21 (by decide) rfl
          clear hext hall
          simp only [putAll, Act.put, List.setIfInBounds_toArray, List.set_cons_zero, List.set_cons_succ, Nat.zero_add, Nat.reduceAdd, e21]
          clear e21
          have HB10 := Lib.hid (below_ext2 HB9.out HEXT.out)
          go_wp2_with fail
          go_ret
          exact ⟨rfl, HB10.out⟩
end Go.Proofs.YtnainhpcmoekcaaGreatDoor
