/- SumDigits: for every input the law returns true. -/
import Derived.Test.YtkjconhhandhlabSumAwake
import Derived.Test.YtkjconhhandhlabSumRParse
import Derived.Test.YtkjconhhandhlabOpen
namespace Go.Proofs.Ytkjconhhandhlab
open Go.RowKit

def FixPost (w : World) (a : Nat) (b : Int) (e : Ending) (w' : World) : Prop := e = .returned (.tuple #[.int .u64 (a : Int), .int .i64 b]) ∧ w = w'
theorem parse_fix (s : ByteArray) (w : World) (hs : s.size ≤ 140737488351232) (l : List Nat) (hl : bytesOf s = l) (a : Nat) (b : Int) (ha : (pres l).1 = a) (hb : ((pres l).2 : Int) = b) :
    Calls Try.prog 19 #[.string s] w (FixPost w a b) := by
  refine (parse_any s w hs).mono ?_
  rintro e w' ⟨x, y, rfl, h, rfl⟩
  rw [hl] at h
  rw [h] at ha hb
  exact ⟨by rw [← ha, ← hb], rfl⟩
theorem rparse_fix (s : ByteArray) (w : World) (hs : s.size ≤ 140737488351232) (l : List Nat) (hl : bytesOf s = l) (a : Nat) (b : Int) (ha : (pres l).1 = a) (hb : ((pres l).2 : Int) = b) :
    Calls Try.prog 20 #[.string s] w (FixPost w a b) := by
  refine (rparse_any s w hs).mono ?_
  rintro e w' ⟨x, y, rfl, h, rfl⟩
  rw [hl] at h
  rw [h] at ha hb
  exact ⟨by rw [← ha, ← hb], rfl⟩

set_option maxHeartbeats 1000000 in
theorem sumdigits_walk (h : Nat) (s : ByteArray) (w : World) (hh : U64 h) (hs : s.size ≤ 140737488351232) :
    Calls Try.prog 8 #[.int .u64 (h : Int), .string s] w (Ok w) := by
  have Hh := Lib.hid hh; clear hh
  by_cases hgt : 60 < s.size
  · go_enter Try.func8, Try.ntmps8
    go_wp2_with fail
    refine (awake_any _).mono ?_
    rintro e w1 ⟨rfl, hb1⟩
    go_wp2
    go_ret
    exact ⟨rfl, hb1⟩
  · obtain ⟨a, ha⟩ : ∃ a, (pres (bytesOf s)).1 = a := ⟨_, rfl⟩
    have Ha := Lib.hid ha; clear ha
    obtain ⟨ds, hds⟩ : ∃ ds, strOf (digs 16 h) = ds := ⟨_, rfl⟩
    have Hd := Lib.hid hds; clear hds
    have hsz : ds.size = 16 := by rw [← Hd.out, strOf_size, digs_len]
    have Hz := Lib.hid (show ds.size ≤ 140737488351232 by omega); clear hsz
    have hback : pres (bytesOf ds) = (h, 0) := by rw [← Hd.out, bytesOf_strOf _ (digs_byt _ _)]; exact pres_digs h Hh.out
    have Hback := Lib.hid hback; clear hback
    rcases pres_err (bytesOf s) with hb | hb
    · have Hda := Lib.hid (show strOf (digs 16 a) = s by rw [← Ha.out, digs_pres _ hb, strOf_bytesOf])
      have Hua := Lib.hid (show U64 a by rw [← Ha.out]; exact pres_lt _)
      have Hb := Lib.hid (show ((pres (bytesOf s)).2 : Int) = 0 by rw [hb]; rfl); clear hb
      go_enter Try.func8, Try.ntmps8
      go_wp2_with fail
      refine (awake_any _).mono ?_
      rintro e w1 ⟨rfl, hb1⟩
      go_wp2_with fail
      refine (parse_fix s _ hs _ rfl a 0 Ha.out Hb.out).mono ?_
      rintro e w2 ⟨rfl, rfl⟩
      go_wp2_with fail
      refine (rparse_fix s _ hs _ rfl a 0 Ha.out Hb.out).mono ?_
      rintro e w2 ⟨rfl, rfl⟩
      go_wp2_with fail
      refine (digits_is h ds _ Hh.out Hd.out).mono ?_
      rintro e w2 ⟨rfl, hb2⟩
      go_wp2_with fail
      refine (parse_fix ds _ Hz.out _ rfl h 0 (by rw [Hback.out]) (by rw [Hback.out]; rfl)).mono ?_
      rintro e w3 ⟨rfl, rfl⟩
      go_wp2_with fail
      refine (digits_is h ds _ Hh.out Hd.out).mono ?_
      rintro e w3 ⟨rfl, hb3⟩
      go_wp2_with fail
      refine (rdigits_any h _ Hh.out).mono ?_
      rw [Hd.out]
      rintro e w4 ⟨rfl, rfl⟩
      go_wp2_with fail
      refine (digits_is a s _ Hua.out Hda.out).mono ?_
      rintro e w4 ⟨rfl, hb4⟩
      go_wp2
      go_ret
      exact ⟨rfl, hb1.trans ((hb2.trans ((hb3.trans (hb4.mono hb3.size)).mono hb2.size)).mono hb1.size)⟩
    · have Hb := Lib.hid (show ((pres (bytesOf s)).2 : Int) = 3 by rw [hb]; rfl); clear hb
      go_enter Try.func8, Try.ntmps8
      go_wp2_with fail
      refine (awake_any _).mono ?_
      rintro e w1 ⟨rfl, hb1⟩
      go_wp2_with fail
      refine (parse_fix s _ hs _ rfl a 3 Ha.out Hb.out).mono ?_
      rintro e w2 ⟨rfl, rfl⟩
      go_wp2_with fail
      refine (rparse_fix s _ hs _ rfl a 3 Ha.out Hb.out).mono ?_
      rintro e w2 ⟨rfl, rfl⟩
      go_wp2_with fail
      refine (digits_is h ds _ Hh.out Hd.out).mono ?_
      rintro e w2 ⟨rfl, hb2⟩
      go_wp2_with fail
      refine (parse_fix ds _ Hz.out _ rfl h 0 (by rw [Hback.out]) (by rw [Hback.out]; rfl)).mono ?_
      rintro e w3 ⟨rfl, rfl⟩
      go_wp2_with fail
      refine (digits_is h ds _ Hh.out Hd.out).mono ?_
      rintro e w3 ⟨rfl, hb3⟩
      go_wp2_with fail
      refine (rdigits_any h _ Hh.out).mono ?_
      rw [Hd.out]
      rintro e w4 ⟨rfl, rfl⟩
      go_wp2
      go_ret
      exact ⟨rfl, hb1.trans ((hb2.trans (hb3.mono hb2.size)).mono hb1.size)⟩
end Go.Proofs.Ytkjconhhandhlab
