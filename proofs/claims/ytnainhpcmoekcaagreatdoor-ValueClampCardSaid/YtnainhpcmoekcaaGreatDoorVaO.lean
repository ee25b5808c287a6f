/- value: strings.Replacer: buildOnce, sync.Once's slow road and Do. -/
import Derived.Test.YtnainhpcmoekcaaGreatDoorVaZ
namespace Go.Proofs.YtnainhpcmoekcaaGreatDoor
open Go.RowKit

/-- w' is w with new blocks and with writes to block g alone. -/
structure Only (g : Nat) (w w' : World) : Prop where
 os : w'.os = w.os
 tape : w'.tape = w.tape
 output : w'.output = w.output
 size : w.heap.size ≤ w'.heap.size
 block : ∀ k, k < w.heap.size → k ≠ g → w'.heap[k]? = w.heap[k]?
section
variable {g : Nat} {w w' : World}
theorem Only.refl (g : Nat) (w : World) : Only g w w := ⟨rfl, rfl, rfl, Nat.le_refl _, fun _ _ _ => rfl⟩
theorem Only.trans {a b c : World} (h : Only g a b) (k : Only g b c) : Only g a c :=
 ⟨k.os.trans h.os, k.tape.trans h.tape, k.output.trans h.output, Nat.le_trans h.size k.size, fun i hi hn => (k.block i (Nat.lt_of_lt_of_le hi h.size) hn).trans (h.block i hi hn)⟩
theorem Only.drew {a b : World} (h : Only g a b) : Only g a b.drew := ⟨h.os, h.tape, h.output, h.size, h.block⟩
theorem Only.set {a b : World} (h : Only g a b) (i : Nat) (v : Value) : Only g a (b.setCell ⟨g, i, none⟩ v) :=
 h.trans ⟨rfl, rfl, rfl, by simp [World.setCell], fun k _ hn => Below.heap_setCell _ _ _ _ hn⟩
theorem Only.below {a b c : World} (h : Only g a b) (hb : Below b.heap.size b c) : Only g a c :=
 h.trans ⟨hb.os, hb.tape, hb.output, hb.size, fun k hk _ => hb.block k hk⟩
theorem Only.toBelow {B : Nat} (h : Only g w w') (hB : B ≤ g) (hw : B ≤ w.heap.size) : Below B w w' := ⟨h.os, h.tape, h.output, h.size, fun k hk => h.block k (by omega) (by omega)⟩
end
theorem Brp.only {g q : Nat} {w w' : World} (h : Brp w q) (ho : Only g w w') (hq : q ≠ g) (hg : ∃ cs, Bx w g 109 cs) : Brp w' q := by
 obtain ⟨cs, hg⟩ := hg
 obtain ⟨f, t, A, c, h1, h2, h3⟩ := h.ex
 refine ⟨f, t, A, c, h1.keep (ho.block q h1.lt hq), h2, h3.ku fun b cs2 fr hb => ho.block b (lt_of_some hb) fun e => ?_⟩
 unfold Bx at hg
 rw [e, hg] at hb
 exact absurd hb (by simp only [Option.some.injEq, Obj.cells.injEq]; rintro ⟨-, h, -⟩; revert h; decide)
/-- The four strings. -/
def Strs (w : World) (o : Nat) : Prop := w.cell? ⟨o, 0, none⟩ = some (.string ⟨#[34]⟩) ∧ w.cell? ⟨o, 1, none⟩ = some (.string ⟨#[92, 34]⟩) ∧ w.cell? ⟨o, 2, none⟩ = some (.string ⟨#[92]⟩) ∧ w.cell? ⟨o, 3, none⟩ = some (.string ⟨#[92, 92]⟩)
theorem Strs.set {w : World} {o b i : Nat} {v : Value} (h : Strs w o) (hb : o ≠ b) : Strs (w.setCell ⟨b, i, none⟩ v) o := by
 have e : ∀ j, (w.setCell ⟨b, i, none⟩ v).cell? ⟨o, j, none⟩ = w.cell? ⟨o, j, none⟩ := fun j => World.cell?_of_block (Below.heap_setCell _ _ _ _ hb)
 exact ⟨(e 0).trans h.1, (e 1).trans h.2.1, (e 2).trans h.2.2.1, (e 3).trans h.2.2.2⟩
def rpI (q : Nat) : Value := .iface 149 (.pointer (some ⟨q, 0, none⟩))
theorem once_any (rb o c : Nat) (x0 x1 x2 x3 : Value) (w : World) (hr : Bx w rb 109 #[x0, x1, x2, x3, .slice (some ⟨o, 0, none⟩) 4 c]) (ho : Strs w o) :
  Calls Tryz.prog 77 #[.pointer (some ⟨rb, 0, none⟩)] w fun e w' => e = .returned (.tuple #[]) ∧ ∃ q, w.heap.size ≤ q ∧ Brp w' q ∧ Bx w' rb 109 #[x0, x1, x2, rpI q, .slice none 0 0] ∧ Only rb w w' := by
 have HC := Lib.hid (build_any rb o c x0 x1 x2 x3 w hr ho)
 have HR := Lib.hid hr
 clear hr ho
 go_enter Tryz.func77, Tryz.ntmps77
 go_wp2_with fail
 refine HC.out.mono ?_
 rintro e w1 ⟨q, rfl, hq, hbp, hb⟩
 have hr1 := HR.out.below hb
 have k3 := hr1.cell 3
 have z3 := hr1.free 3
 have k4 := hr1.cell 4
 have z4 := hr1.free 4
 have HQ := Lib.hid hq; have HP := Lib.hid hbp; have HB := Lib.hid hb; have HR1 := Lib.hid hr1
 have hr2 := hr1.set 3 (rpI q)
 have k5 := hr2.cell 4
 have z5 := hr2.free 4
 unfold rpI at k5 z5
 have HR3 := Lib.hid (hr2.set 4 (.slice none 0 0))
 clear hq hbp hb hr1 hr2
 go_wp2_with fail
 go_end0
 have hl := HR.out.lt
 refine ⟨rfl, q, HQ.out, ?_, HR3.out, (((Only.refl rb w).below HB.out).set 3 (rpI q)).set 4 (.slice none 0 0)⟩
 exact HP.out.only (((Only.refl rb w1).set 3 (rpI q)).set 4 (.slice none 0 0)) (by have := HQ.out; omega) ⟨_, HR1.out⟩
theorem load_zero (a : Addr) (w : World) (h0 : w.cell? a = some (.int .u32 0)) : Calls Tryz.prog 89 #[.pointer (some a)] w fun e w' => e = .returned (.bool false) ∧ w' = w := by
 have hl := run_call_load (P := Tryz.prog) Tryz.func103 (by kernel_rfl) (by kernel_rfl) (by kernel_rfl) .u32 (by kernel_rfl) h0
 go_enter Tryz.func89, Tryz.ntmps89
 go_wp2
 go_ret
 exact ⟨rfl, rfl⟩
set_option maxRecDepth 100000 in
set_option maxHeartbeats 1600000 in
theorem slow_any (rb o c : Nat) (x2 x3 : Value) (w : World) (hr : Bx w rb 109 #[.int .u32 0, .int .i32 0, x2, x3, .slice (some ⟨o, 0, none⟩) 4 c]) (ho : Strs w o) (hne : o ≠ rb) :
  Calls Tryz.prog 90 #[.pointer (some ⟨rb, 0, none⟩), .func (.func 77) #[.pointer (some ⟨rb, 0, none⟩)] #[]] w fun e w' => e = .returned (.tuple #[]) ∧ ∃ q, w.heap.size ≤ q ∧ Brp w' q ∧ Bx w' rb 109 #[.int .u32 1, .int .i32 0, x2, rpI q, .slice none 0 0] ∧ Only rb w w' := by
 have h1 := hr.cell 1
 have f1 := hr.free 1
 have hr1 := hr.set 1 (.int .i32 1)
 have g0 := hr1.cell 0
 have HL := Lib.hid (load_zero ⟨rb, 0, none⟩ _ g0)
 have hnot : ∀ (x : Bool) (w : World), (Op.unary .not (.bool x)).run Tryz.prog w = .ok (.bool (!x)) w := fun _ _ => rfl
 have HC := Lib.hid (once_any rb o c _ _ _ _ _ hr1 (ho.set (i := 1) (v := .int .i32 1) hne))
 have HS := Lib.hid (show w.heap.size ≤ (w.setCell ⟨rb, 1, none⟩ (.int .i32 1)).heap.size by rw [size_set]; exact Nat.le_refl _)
 have HO1 := Lib.hid ((Only.refl rb w).set 1 (.int .i32 1))
 have HRL := Lib.hid hr.lt
 clear hr hr1 ho g0
 go_enter_defers Tryz.func90, Tryz.ntmps90
 go_wp2_with (go_at_call 104; refine (lock_free ⟨rb, 1, none⟩ _ h1 f1).mono ?_; rintro e w' ⟨rfl, rfl⟩)
 refine HL.out.mono ?_
 rintro e w' ⟨rfl, rfl⟩
 go_wp2_with fail
 refine HC.out.mono ?_
 rintro e w2 ⟨rfl, q, hq, hbp, hrb, hon⟩
 have HQ := Lib.hid hq; have HP := Lib.hid hbp; have HR2 := Lib.hid hrb; have HO2 := Lib.hid (HO1.out.trans hon)
 clear hq hbp hrb hon
 go_wp2_with fail
 -- THE DOOR: two deferred calls, the last laid first
 refine leaves_cons (f := 106) (args := #[.pointer (some ⟨rb, 0, none⟩), .bool true]) (by simp) (by simp [go_sem]) ?_
 refine (store_deferred ⟨rb, 0, none⟩ _ .returning _ (HR2.out.cell 0) (HR2.out.free 0)).mono ?_
 rintro e u' w'' ⟨rfl, rfl, rfl⟩
 have hr3 : Bx (w2.drew.setCell ⟨rb, 0, none⟩ (.int .u32 1)) rb 109 #[.int .u32 1, .int .i32 1, x2, rpI q, .slice none 0 0] := Bx.set (w := w2.drew) HR2.out 0 (.int .u32 1)
 refine leaves_cons (f := 105) (args := #[.pointer (some ⟨rb, 1, none⟩)]) (by simp [settle]) (by simp [go_sem]) ?_
 refine (unlock_deferred ⟨rb, 1, none⟩ _ _ (hr3.cell 1) (hr3.free 1)).mono ?_
 rintro e u' w'' ⟨rfl, rfl, rfl⟩
 have hr4 := hr3.set 1 (.int .i32 0)
 have ho4 : Only rb w ((w2.drew.setCell ⟨rb, 0, none⟩ (.int .u32 1)).setCell ⟨rb, 1, none⟩ (.int .i32 0)) := (HO2.out.drew.set 0 (.int .u32 1)).set 1 (.int .i32 0)
 have hp4 : Brp ((w2.drew.setCell ⟨rb, 0, none⟩ (.int .u32 1)).setCell ⟨rb, 1, none⟩ (.int .i32 0)) q := HP.out.only (((Only.refl rb w2).drew.set 0 (.int .u32 1)).set 1 (.int .i32 0)) (by have := HQ.out; have := HS.out; have := HRL.out; omega) ⟨_, HR2.out⟩
 have hq4 : w.heap.size ≤ q := Nat.le_trans HS.out HQ.out
 simp [Leaves, settle, results, Tryz.results90]
 exact ⟨q, hq4, hp4, hr4, ho4⟩
theorem do_any (rb o c : Nat) (x2 x3 : Value) (w : World) (hr : Bx w rb 109 #[.int .u32 0, .int .i32 0, x2, x3, .slice (some ⟨o, 0, none⟩) 4 c]) (ho : Strs w o) (hne : o ≠ rb) :
  Calls Tryz.prog 76 #[.pointer (some ⟨rb, 0, none⟩), .func (.func 77) #[.pointer (some ⟨rb, 0, none⟩)] #[]] w fun e w' => e = .returned (.tuple #[]) ∧ ∃ q, w.heap.size ≤ q ∧ Brp w' q ∧ Bx w' rb 109 #[.int .u32 1, .int .i32 0, x2, rpI q, .slice none 0 0] ∧ Only rb w w' := by
 have HL := Lib.hid (load_zero ⟨rb, 0, none⟩ _ (hr.cell 0))
 have HC := Lib.hid (slow_any rb o c x2 x3 w hr ho hne)
 have hnot : ∀ (x : Bool) (w : World), (Op.unary .not (.bool x)).run Tryz.prog w = .ok (.bool (!x)) w := fun _ _ => rfl
 clear hr ho
 go_enter Tryz.func76, Tryz.ntmps76
 go_wp2_with fail
 refine HL.out.mono ?_
 rintro e w' ⟨rfl, rfl⟩
 go_wp2_with fail
 refine HC.out.mono ?_
 rintro e w2 ⟨rfl, h⟩
 have H := Lib.hid h
 clear h
 go_wp2_with fail
 go_end0
 exact ⟨rfl, H.out⟩
end Go.Proofs.YtnainhpcmoekcaaGreatDoor
